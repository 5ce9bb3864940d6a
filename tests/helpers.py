"""What several tests use: wrong values, nets, and a reckoning of its own from the document's words."""

import copy
import random
import unittest

from servedalone import errors
from servedalone.asks import Ask
from servedalone.houses import House
from servedalone.nets import Net
from servedalone.rules import Rule
from servedalone.shares import Share

PRIMES = [number for number in range(2, 98) if all(number % less for less in range(2, number))]
GREAT = 10 ** 399
OWN_ERRORS = (
    errors.InvalidNumber, errors.InvalidLetter, errors.NoRoom, errors.NotHeld,
    errors.NotAlone, errors.NoRequest, errors.NoHouse, errors.TooLarge,
)

# Behind any letters the weights are 1, 2, 3, 4: the end is never the greatest.
EVEN = (5, ((1,), (1,), (1,), (1,)), (0,), (), ((0,), (1,), (2,), (3,)), 0)
# The letter behind letter a is a + 1 (behind 3 it is 0, the end), whatever came before.
COUNTING = (
    2, ((1, 0, 0, 0), (0, 1, 0, 0), (0, 0, 1, 0), (0, 0, 0, 1)), (0, 0, 0, 0), (),
    ((0, 0, 0, 1), (1, 0, 0, 0), (0, 1, 0, 0), (0, 0, 1, 0)), 0,
)
# The same without an end.
ROUND = COUNTING[:5] + (None,)


def deep_tuple():
    """A tuple ten deep."""
    value = (1,)
    for _ in range(9):
        value = (value, 0)
    return value


def no_integers():
    """Values that are no integers at all, made anew for each call."""
    return [True, False, None, "", "1", "a word", (), (1,), (1, (2, [3])), [], [1], [[1], 2], deep_tuple(), [0] * 200]


def wrong_numbers(low, high):
    """Values that are no integers from low to high."""
    return [low - 1, high + 1, -GREAT, GREAT, -7, high + 1000] + no_integers()


class Case(unittest.TestCase):
    """A test case that compares kinds as well as values."""

    def assert_same(self, found, wanted):
        """Equal, and of the same kinds, inside of one another too (1 is not True, a list no tuple)."""
        self.assertEqual(kinds(found), kinds(wanted))

    def assert_fails(self, error, values, call, *arguments, **named):
        """The call raises just this error, which keeps just these values."""
        with self.assertRaises(errors.ServeError) as caught:
            call(*arguments, **named)
        self.assertIs(type(caught.exception), error)
        kept = vars(caught.exception)
        self.assertEqual(sorted(kept), sorted(values))
        for name, value in values.items():
            self.assert_same(kept[name], value)

    def assert_keeps(self, call, *arguments, **named):
        """The call leaves what it is passed as it was; returns its result."""
        before = copy.deepcopy((arguments, named))
        result = call(*arguments, **named)
        self.assert_same((arguments, named), before)
        return result


def kinds(value):
    """The value with the kind of each part, so that True and 1, () and [] are told apart."""
    if isinstance(value, (tuple, list)):
        return type(value).__name__, [kinds(part) for part in value]
    if isinstance(value, dict):
        return "dict", [(kinds(key), kinds(value[key])) for key in value]
    if isinstance(value, (Net, Ask, Rule, Share)):
        return type(value).__name__, kinds(vars(value))
    if isinstance(value, House):
        return type(value).__name__, kinds(whole_state(value))
    return type(value).__name__, value


def as_lists(value):
    """Tuples as lists, inside of one another too."""
    if isinstance(value, (tuple, list)):
        return [as_lists(part) for part in value]
    return value


def as_tuples(value):
    """Lists as tuples, inside of one another too."""
    if isinstance(value, (tuple, list)):
        return tuple(as_tuples(part) for part in value)
    return value


def spoil(value):
    """Changes every list in the value."""
    if isinstance(value, (tuple, list)):
        for part in value:
            spoil(part)
    if isinstance(value, list):
        value.reverse()
        value.append(99)
        del value[0]


def parts_of_net(source, prime=None, letters=None, width=None, layers=None, end=None):
    """The arguments of a net, drawn from this random source where they are not given."""
    prime = prime or source.choice(PRIMES)
    letters = letters or source.randint(1, 12)
    width = width or source.randint(1, 4)
    layers = source.randint(0, 3) if layers is None else layers

    def vector():
        return tuple(source.randrange(prime) for _ in range(width))

    def rows(many):
        return tuple(vector() for _ in range(many))

    made = tuple(tuple(rows(width) for _ in range(5)) for _ in range(layers))
    return prime, rows(letters), vector(), made, rows(letters), end


def some_net(seed, **wanted):
    """A net drawn by this seed."""
    return Net(*parts_of_net(random.Random(seed), **wanted))


def reckoned_row(parts, rows, letter):
    """The row of a letter, written down once more from the document, place by place."""
    prime, embed, shift, layers, out, _ = parts
    places = range(len(shift))
    x = [embed[letter][k] + len(rows) * shift[k] for k in places]
    pairs = []
    for at, (query, key, value, first, second) in enumerate(layers):
        q = [sum(query[i][k] * x[k] for k in places) for i in places]
        u = [sum(key[i][k] * x[k] for k in places) % prime for i in places]
        w = [sum(value[i][k] * x[k] for k in places) % prime for i in places]
        pairs.append((tuple(u), tuple(w)))
        for other_u, other_w in [row[0][at] for row in rows] + [(u, w)]:
            agreed = sum(q[k] * other_u[k] for k in places)
            x = [x[k] + agreed * other_w[k] for k in places]
        y = [sum(first[i][k] * x[k] for k in places) for i in places]
        x = [(x[i] + sum(second[i][k] * y[k] * y[k] for k in places)) % prime for i in places]
    weights = [sum(vector[k] * x[k] for k in places) % prime + 1 for vector in out]
    return tuple(pairs), tuple(weights)


def reckoned_rows(parts, letters):
    """The rows of these letters, by reckoned_row."""
    rows = ()
    for letter in letters:
        rows = rows + (reckoned_row(parts, rows, letter),)
    return rows


def some_rule(source, letters):
    """A rule of up to six states for so many letters."""
    states = source.randint(1, 6)
    steps = [
        [source.choice([None, source.randrange(states), source.randrange(states)]) for _ in range(letters)]
        for _ in range(states)
    ]
    return Rule(source.randrange(states), steps)


def some_ask(source, letters, **wanted):
    """An ask for a net of so many letters."""
    def row(most):
        return [source.randrange(letters) for _ in range(source.randint(1, most))]

    named = {
        "stops": [row(4) for _ in range(source.choice([0, 0, 1, 2, 4]))],
        "tape": [source.randrange(1000000) for _ in range(source.choice([0, 1, 3, 12]))],
        "rule": source.choice([None, some_rule(source, letters)]),
    }
    named.update(wanted)
    return Ask(row(20), source.randint(1, 30), **named)


def chosen(weights, text, tape, rule):
    """The choice, written down once more from the document."""
    counted = list(weights)
    for letter in range(len(weights)):
        if rule is not None and not rule.lets(text, letter):
            counted[letter] = 0
    if not any(counted):
        return None
    if not tape:
        return max(range(len(counted)), key=lambda letter: (counted[letter], -letter))
    rest = tape[len(text) % len(tape)] % sum(counted)
    return min(letter for letter in range(len(counted)) if sum(counted[:letter + 1]) > rest)


def alone(parts, ask, begun=()):
    """What is written for an ask, reckoned from nothing at each letter, from the document's words."""
    text = tuple(begun)
    while True:
        weights = reckoned_rows(parts, ask.prompt + text)[-1][1]
        letter = chosen(weights, text, ask.tape, ask.rule)
        if letter is None:
            return text, "stuck"
        if letter == parts[-1]:
            return text, "end"
        text += (letter,)
        ended = [len(stop) for stop in ask.stops if len(stop) <= len(text) and text[-len(stop):] == stop]
        if ended:
            return text[:-max(ended)], "stop"
        if len(text) == ask.most:
            return text, "most"


def some_row(number):
    """A row, of the kind that a net with one layer gives, that is told from others by this number."""
    return (((number, 1), (2, number)),), (number + 1, 3)


def state_of(store):
    """All that a store tells of itself."""
    blocks = range(store.many)
    rows = tuple(store.rows(block) if store.holders(block) else None for block in blocks)
    return store.many, store.size, store.free, tuple(store.holders(block) for block in blocks), rows


def full_block(store, numbers):
    """A block that is taken and filled with the rows of these numbers."""
    block = store.take()
    for number in numbers:
        store.put_row(block, some_row(number))
    return block


def all_rows(house):
    """The rows of each block in the house's store, () for a free one."""
    store = house.store
    return tuple(store.rows(block) if store.holders(block) else () for block in range(store.many))


def writing(ask, many, parts=ROUND):
    """A house with one request that wrote so many letters behind a prompt of one letter."""
    house = House(Net(*parts), 40, 2)
    house.ask(ask)
    house.step(((0, many),))
    return house


def seen(house):
    """All that a house tells of its requests and its memory, but for the rows."""
    requests = tuple((
        house.text(ticket), house.word(ticket), house.blocks_of(ticket), house.length_of(ticket),
        house.is_out(ticket), house.delivered(ticket), house.sendable(ticket),
    ) for ticket in range(len(house.log())))
    held = tuple(house.store.holders(block) for block in range(house.store.many))
    return requests, house.going(), house.reckoned, held, tuple(house.tree)


def dropped(house):
    """The paths in the order in which drop takes them, at first as the house is, then without its requests.

    It is a copy of the house that they are dropped from.
    """
    house = copy.deepcopy(house)
    gone = []
    for _ in range(2):
        before = list(house.tree)
        while house.tree.drop():
            gone.extend(path for path in before if path not in list(house.tree))
            before = list(house.tree)
        gone.append("cancelled")
        for ticket in house.going():
            house.cancel(ticket)
    return gone


def whole_state(house):
    """All of a house, the rows and the order of the last uses too."""
    return seen(house), all_rows(house), dropped(house), house.log()
