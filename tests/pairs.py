"""A house and a slow house to which the same is done, drawn at random."""

import random

from servedalone.asks import Ask
from servedalone.deeds import do, picture
from servedalone.errors import InvalidLetter, InvalidNumber, NoRequest
from servedalone.houses import House
from servedalone.nets import Net
from servedalone.planners import serve, turn
from tests.helpers import all_rows, as_lists, chosen, dropped, parts_of_net, seen, some_rule, wrong_numbers
from tests.slow import SlowHouse

CALLS = (
    ["ask"] * 4 + ["step"] * 12 + ["guess"] * 4 + ["swap_in"] * 3 + ["swap_out"] * 2 + ["put_off", "fork"] * 2
    + ["deliver"] * 2 + ["cancel", "drop", "known", "turn"]
)

DEEDS = [name for name in CALLS if name not in ("drop", "known", "turn")]


def some_parts(source):
    """The parts of a net with few letters, so that requests often read the same."""
    letters = source.choice([1, 2, 2, 2, 3, 3, 3, 4, 5])
    end = source.choice([None, source.randrange(letters)])
    layers = source.choice([0, 1, 1, 2])
    return parts_of_net(source, letters=letters, width=source.randint(1, 2), layers=layers, end=end)


def some_shape(source):
    """The shape of a store, often a tight one."""
    return source.choice([
        (1, 1), (1, 8), (source.randint(2, 6), source.randint(1, 4)), (source.randint(4, 16), source.randint(1, 4)),
        (source.randint(4, 16), source.randint(1, 4)), (60, source.randint(1, 8)),
    ])


def some_prompt(source, letters, longest=20):
    """A prompt that often begins as others do."""
    begun = [0, letters - 1, 0, 0, letters - 1][:source.randint(0, 5)]
    return (begun + [source.randrange(letters) for _ in range(source.randint(1, 15))])[:longest]


def some_served(source, letters, longest=20, most=30):
    """An ask for a house."""
    lengths = [source.randint(1, 4) for _ in range(source.choice([0, 0, 0, 1, 2, 4]))]
    stops = [[source.randrange(letters) for _ in range(length)] for length in lengths]
    tape = [source.randrange(1000000) for _ in range(source.choice([0, 2, 5, 12]))]
    rule = source.choice([None, None, some_rule(source, letters)])
    most = source.choice([most, source.randint(1, most)])
    return Ask(some_prompt(source, letters, longest), most, stops=stops, tape=tape, rule=rule)


def right_guesses(slow, ticket, many):
    """The letters that are chosen next for a request, also behind its end."""
    request = slow.requests[ticket]
    guesses = ()
    while len(guesses) < many:
        weights = slow.row_of(request.letters + guesses)[1]
        choice = chosen(weights, request.text + guesses, request.tape, request.rule)
        if choice is None:
            return guesses
        guesses += (choice,)
    return guesses


class Pair:
    """The two houses; each call is done to both, and the results must be the same."""

    def __init__(self, case, seed, shape=None):
        self.case = case
        self.source = random.Random(seed)
        self.parts = some_parts(self.source)
        self.net = Net(*self.parts)
        self.letters = len(self.parts[1])
        self.shape = shape or some_shape(self.source)
        self.limit = self.source.choice([2, 4, 8, 30])
        self.longest = self.source.choice([2, 6, 20])
        self.house = House(self.net, *self.shape)
        self.slow = SlowHouse(self.parts, *self.shape)

    def do(self, name, *arguments):
        """The same call of a method of both."""
        found = getattr(self.house, name)(*arguments)
        self.case.assert_same(found, getattr(self.slow, name)(*arguments))
        return found

    def check(self):
        self.case.assertEqual(seen(self.house), self.slow.seen())

    def check_all(self):
        self.check()
        self.case.assertEqual(all_rows(self.house), self.slow.all_rows())
        self.case.assertEqual(dropped(self.house), self.slow.dropped())

    def ticket(self):
        """Some ticket, mostly of a going request."""
        going = self.slow.going()
        if going and self.source.random() < 0.8:
            return self.source.choice(going)
        return self.source.randrange(len(self.slow.requests))

    def one_call(self, calls=CALLS):
        """Some call, to both."""
        name = self.source.choice(calls)
        may_ask = len(self.slow.requests) < 30 and len(self.slow.going()) < self.limit
        if not self.slow.requests or (name == "ask" and may_ask):
            self.do("ask", some_served(self.source, self.letters, self.longest))
        elif name == "step":
            often = [self.source.choice([0, 1, 1, 2, 3, 5, 9, 20]) for _ in range(self.source.randint(0, 5))]
            self.do("step", [(self.ticket(), many) for many in often])
        elif name == "guess":
            self.one_guess()
        elif name == "fork" and may_ask:
            tape = [self.source.randrange(1000000) for _ in range(self.source.randint(0, 4))]
            self.do("fork", self.ticket(), tape)
        elif name in ("put_off", "swap_in", "swap_out", "cancel", "deliver"):
            self.do(name, self.ticket())
        else:
            self.one_of_the_tree_or_a_turn(name)

    def one_guess(self):
        ticket = self.ticket()
        if self.source.random() < 0.5:
            # So that it may come to lack its last letter only.
            self.do("swap_in", ticket)
            self.do("step", ((ticket, len(self.slow.requests[ticket].prompt)),))
        guesses = right_guesses(self.slow, ticket, self.source.randint(0, 8))
        if guesses and self.source.random() < 0.5:
            guesses = guesses[:-1] + (self.source.randrange(self.letters),)
        self.do("guess", ticket, guesses)

    def one_of_the_tree_or_a_turn(self, name):
        if name == "drop":
            self.case.assert_same(self.house.tree.drop(), self.slow.drop())
        elif name == "known":
            letters = tuple(some_prompt(self.source, self.letters))
            self.case.assert_same(self.house.tree.known(letters), self.slow.known(letters))
        elif name == "turn":
            self.case.assert_same(turn(self.house), self.slow.turn())
        elif name == "serve" and all(self.slow.needed(ticket) <= self.shape[0] for ticket in self.slow.going()):
            self.case.assert_same(serve(self.house), self.slow.serve())
        elif name == "come_back":
            self.case.assertEqual(self.house.log(), self.slow.log())
            self.house = House.come_back(self.net, *self.shape, self.house.log())
            self.slow = self.slow.come_back()


class Deeds(Pair):
    """The two houses again; what is done to them is done as deeds, which are kept."""

    def __init__(self, case, seed, shape=None):
        super().__init__(case, seed, shape)
        self.deeds = []

    def do(self, name, *arguments):
        deed = self.source.choice([(name, *arguments), (name, *as_lists(arguments)), [name, *arguments]])
        self.deeds.append(deed)
        found = do(self.house, deed)
        self.case.assert_same(found, getattr(self.slow, name)(*arguments))
        return found

    def check_all(self):
        super().check_all()
        self.case.assert_same(picture(self.house), self.slow.picture())

    def wrong_deeds(self):
        """Each kind of deed with something wrong in it, and the error that it raises."""
        wrong = self.source.choice(wrong_numbers(0, self.letters - 1))
        ticket = self.source.choice(wrong_numbers(0, len(self.slow.requests) - 1))
        many = self.source.choice(wrong_numbers(0, 60))
        right = self.source.randrange(len(self.slow.requests))
        found = [((name, ticket), NoRequest, {"ticket": ticket}) for name in (
            "put_off", "swap_out", "swap_in", "cancel", "deliver",
        )]
        return found + [
            (("ask", Ask((0, wrong), 3)), InvalidLetter, {"letter": wrong}),
            (["ask", Ask((0,), 3, stops=((0,), (wrong, -1)))], InvalidLetter, {"letter": wrong}),
            (("step", ((right, many), (ticket, 1))), NoRequest, {"ticket": ticket}),
            (("step", [[right, 3], [right, many]]), InvalidNumber, {"number": many}),
            (("fork", ticket, (1, 2)), NoRequest, {"ticket": ticket}),
            (("guess", ticket, (wrong,)), NoRequest, {"ticket": ticket}),
            (("guess", right, [0, wrong]), InvalidLetter, {"letter": wrong}),
        ]

    def one_deed(self, may_fail=True):
        """Some deed; one of those that raise an error is done to the house alone."""
        if may_fail and self.slow.requests and self.source.random() < 0.15:
            deed, error, values = self.source.choice(self.wrong_deeds())
            self.case.assert_fails(error, values, do, self.house, deed)
            self.deeds.append(deed)
        else:
            self.one_call(DEEDS)
