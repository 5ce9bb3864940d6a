"""A house and a slow house to which the same is done, drawn at random."""

import random

from servedalone.asks import Ask
from servedalone.houses import House
from servedalone.nets import Net
from servedalone.planners import serve, turn
from tests.helpers import all_rows, chosen, dropped, parts_of_net, seen, some_rule
from tests.slow import SlowHouse

CALLS = (
    ["ask"] * 4 + ["step"] * 12 + ["guess"] * 4 + ["swap_in"] * 3 + ["swap_out"] * 2 + ["put_off", "fork"] * 2
    + ["deliver"] * 2 + ["cancel", "drop", "known", "turn"]
)


def some_parts(source):
    """The parts of a net with few letters, so that requests often read the same."""
    letters = source.choice([1, 2, 2, 2, 3, 3, 3, 4, 5])
    end = source.choice([None, source.randrange(letters)])
    layers = source.choice([0, 1, 1, 2])
    return parts_of_net(source, letters=letters, width=source.randint(1, 2), layers=layers, end=end)


def some_shape(source):
    """The shape of a store, often a tight one."""
    return source.choice([
        (1, 1), (1, 8), (source.randint(2, 6), source.randint(1, 4)), (source.randint(4, 16), source.randint(1, 4)),
        (source.randint(4, 16), source.randint(1, 4)), (60, source.randint(1, 8)),
    ])


def some_prompt(source, letters, longest=20):
    """A prompt that often begins as others do."""
    begun = [0, letters - 1, 0, 0, letters - 1][:source.randint(0, 5)]
    return (begun + [source.randrange(letters) for _ in range(source.randint(1, 15))])[:longest]


def some_served(source, letters, longest=20, most=30):
    """An ask for a house."""
    lengths = [source.randint(1, 4) for _ in range(source.choice([0, 0, 0, 1, 2, 4]))]
    stops = [[source.randrange(letters) for _ in range(length)] for length in lengths]
    tape = [source.randrange(1000000) for _ in range(source.choice([0, 2, 5, 12]))]
    rule = source.choice([None, None, some_rule(source, letters)])
    most = source.choice([most, source.randint(1, most)])
    return Ask(some_prompt(source, letters, longest), most, stops=stops, tape=tape, rule=rule)


def right_guesses(slow, ticket, many):
    """The letters that are chosen next for a request, also behind its end."""
    request = slow.requests[ticket]
    guesses = ()
    while len(guesses) < many:
        weights = slow.row_of(request.letters + guesses)[1]
        choice = chosen(weights, request.text + guesses, request.tape, request.rule)
        if choice is None:
            return guesses
        guesses += (choice,)
    return guesses


class Pair:
    """The two houses; each call is done to both, and the results must be the same."""

    def __init__(self, case, seed, shape=None):
        self.case = case
        self.source = random.Random(seed)
        self.parts = some_parts(self.source)
        self.net = Net(*self.parts)
        self.letters = len(self.parts[1])
        self.shape = shape or some_shape(self.source)
        self.limit = self.source.choice([2, 4, 8, 30])
        self.longest = self.source.choice([2, 6, 20])
        self.house = House(self.net, *self.shape)
        self.slow = SlowHouse(self.parts, *self.shape)

    def do(self, name, *arguments):
        """The same call of a method of both."""
        found = getattr(self.house, name)(*arguments)
        self.case.assert_same(found, getattr(self.slow, name)(*arguments))
        return found

    def check(self):
        self.case.assertEqual(seen(self.house), self.slow.seen())

    def check_all(self):
        self.check()
        self.case.assertEqual(all_rows(self.house), self.slow.all_rows())
        self.case.assertEqual(dropped(self.house), self.slow.dropped())

    def ticket(self):
        """Some ticket, mostly of a going request."""
        going = self.slow.going()
        if going and self.source.random() < 0.8:
            return self.source.choice(going)
        return self.source.randrange(len(self.slow.requests))

    def one_call(self, calls=CALLS):
        """Some call, to both."""
        name = self.source.choice(calls)
        may_ask = len(self.slow.requests) < 30 and len(self.slow.going()) < self.limit
        if not self.slow.requests or (name == "ask" and may_ask):
            self.do("ask", some_served(self.source, self.letters, self.longest))
        elif name == "step":
            often = [self.source.choice([0, 1, 1, 2, 3, 5, 9, 20]) for _ in range(self.source.randint(0, 5))]
            self.do("step", [(self.ticket(), many) for many in often])
        elif name == "guess":
            self.one_guess()
        elif name == "fork" and may_ask:
            tape = [self.source.randrange(1000000) for _ in range(self.source.randint(0, 4))]
            self.do("fork", self.ticket(), tape)
        elif name in ("put_off", "swap_in", "swap_out", "cancel", "deliver"):
            self.do(name, self.ticket())
        else:
            self.one_of_the_tree_or_a_turn(name)

    def one_guess(self):
        ticket = self.ticket()
        if self.source.random() < 0.5:
            # So that it may come to lack its last letter only.
            self.do("swap_in", ticket)
            self.do("step", ((ticket, len(self.slow.requests[ticket].prompt)),))
        guesses = right_guesses(self.slow, ticket, self.source.randint(0, 8))
        if guesses and self.source.random() < 0.5:
            guesses = guesses[:-1] + (self.source.randrange(self.letters),)
        self.do("guess", ticket, guesses)

    def one_of_the_tree_or_a_turn(self, name):
        if name == "drop":
            self.case.assert_same(self.house.tree.drop(), self.slow.drop())
        elif name == "known":
            letters = tuple(some_prompt(self.source, self.letters))
            self.case.assert_same(self.house.tree.known(letters), self.slow.known(letters))
        elif name == "turn":
            self.case.assert_same(turn(self.house), self.slow.turn())
        elif name == "serve" and all(self.slow.needed(ticket) <= self.shape[0] for ticket in self.slow.going()):
            self.case.assert_same(serve(self.house), self.slow.serve())
        elif name == "come_back":
            self.case.assertEqual(self.house.log(), self.slow.log())
            self.house = House.come_back(self.net, *self.shape, self.house.log())
            self.slow = self.slow.come_back()
