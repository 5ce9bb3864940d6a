"""[27]: crews."""

import copy
import random

from servedalone.crews import Crew
from servedalone.errors import InvalidLetter, InvalidNumber
from servedalone.nets import Net
from servedalone.plain import rows_of
from tests.helpers import Case, as_lists, parts_of_net, reckoned_row, reckoned_rows, some_net, spoil, wrong_numbers


class SlowCrew:
    """A crew that follows the document word for word; it reckons all from the sums of the rounds each time."""

    def __init__(self, parts, many):
        self.parts, self.many = parts, many
        self.way = []
        self.rows = None
        # For each round that began, the parts that were added, by their members.
        self.rounds = []

    def begin(self, rows, letter):
        self.rows, self.letter = rows, letter
        self.way, self.rounds = [], []
        self.next_round()

    def next_round(self):
        if len(self.rounds) < 5 * len(self.parts[3]):
            self.way += [(len(self.rounds), member) for member in range(self.many)]
            self.rounds.append({})

    def product(self, number):
        added = self.rounds[number].values()
        return [sum(numbers) % self.parts[0] for numbers in zip(*added)]

    def vectors(self):
        """For each round that began, the vector that its matrix is taken times with."""
        prime, embed, shift, layers, _, _ = self.parts
        places = range(len(shift))
        x = [(embed[self.letter][k] + len(self.rows) * shift[k]) % prime for k in places]
        found = []
        for at in range(len(layers)):
            found += [x, x, x]
            if len(self.rounds) > 5 * at + 3:
                q, u, w = [self.product(5 * at + number) for number in range(3)]
                for other_u, other_w in [row[0][at] for row in self.rows] + [(u, w)]:
                    agreed = sum(q[k] * other_u[k] for k in places)
                    x = [(x[k] + agreed * other_w[k]) % prime for k in places]
                found.append(x)
            if len(self.rounds) > 5 * at + 4:
                found.append([number * number for number in self.product(5 * at + 3)])
            if len(self.rounds) <= 5 * at + 5:
                break
            x = [(x[k] + self.product(5 * at + 4)[k]) % prime for k in places]
        return found[:len(self.rounds)]

    def wanted(self, part):
        number, member = part
        return number == len(self.rounds) - 1 and member not in self.rounds[number]

    def deliver(self, place):
        part = self.way.pop(place)
        if not self.wanted(part):
            return False
        number, member = part
        matrix, vector = self.parts[3][number // 5][number % 5], self.vectors()[number]
        columns = [k for k in range(len(vector)) if k % self.many == member]
        self.rounds[number][member] = [sum(row[k] * vector[k] for k in columns) for row in matrix]
        if len(self.rounds[number]) == self.many:
            self.next_round()
        return True

    def double(self, place):
        self.way.append(self.way[place])

    def lose(self, place):
        part = self.way.pop(place)
        if self.wanted(part) and part not in self.way:
            self.way.append(part)

    def row(self):
        if self.rows is None or len(self.rounds) < 5 * len(self.parts[3]):
            return None
        if self.rounds and len(self.rounds[-1]) < self.many:
            return None
        return reckoned_row(self.parts, tuple(self.rows), self.letter)


class Both:
    """A crew and a slow crew to which the same is done."""

    def __init__(self, case, source, parts, many):
        self.case, self.source, self.parts = case, source, parts
        self.crew, self.slow = Crew(Net(*parts), many), SlowCrew(parts, many)

    def check(self):
        self.case.assert_same(self.crew.waiting(), tuple(self.slow.way))
        self.case.assert_same(self.crew.row(), self.slow.row())

    def do(self, name, *arguments):
        self.case.assert_same(getattr(self.crew, name)(*arguments), getattr(self.slow, name)(*arguments))
        self.check()

    def begin(self):
        letters = [self.source.randrange(len(self.parts[1])) for _ in range(self.source.randint(1, 5))]
        rows = reckoned_rows(self.parts, letters[:-1])
        self.do("begin", self.source.choice([rows, as_lists(rows)]), letters[-1])

    def one_part(self):
        names = ["deliver"] * 4 + ["double"] * (2 if len(self.slow.way) < 20 else 0) + ["lose"] * 2
        # Now and then the first ones, now and then any.
        most = self.source.choice([1, len(self.slow.way)])
        self.do(self.source.choice(names), self.source.randrange(most))


class Crews(Case):
    def test_against_a_slow_crew(self):
        done = {}
        for seed in range(150):
            source = random.Random(seed)
            parts = parts_of_net(source, width=1 + seed % 4, layers=source.choice([0, 1, 1, 2, 3]))
            many = source.randint(1, 1 + seed % 4)
            both = Both(self, source, parts, many)
            both.check()
            for _ in range(2):
                both.begin()
                while both.slow.row() is None:
                    both.one_part()
                    if source.random() < 0.01:
                        both.begin()
                # What is left over, too.
                while both.slow.way and source.random() < 0.9:
                    both.one_part()
                done[1 + seed % 4, many] = True
        self.assertEqual(len(done), 10)

    def test_members_one_up_to_the_width(self):
        for width in range(1, 5):
            net = some_net(width, width=width, layers=2, letters=3)
            before = rows_of(net, (2, 0))
            for many in range(1, width + 1):
                crew = Crew(net, many)
                crew.begin(before, 1)
                count = 0
                while crew.waiting():
                    self.assert_same(crew.row(), None)
                    self.assert_same(crew.deliver(len(crew.waiting()) - 1), True)
                    count += 1
                self.assert_same((count, crew.row()), (10 * many, net.row(before, 1)))

    def test_rounds_and_members(self):
        crew = Crew(some_net(1, width=3, layers=1, letters=2), 2)
        self.assert_same(crew.begin((), 1), None)
        self.assert_same(crew.waiting(), ((0, 0), (0, 1)))
        self.assert_same((crew.deliver(1), crew.waiting()), (True, ((0, 0),)))
        self.assert_same((crew.deliver(0), crew.waiting()), (True, ((1, 0), (1, 1))))
        for number in range(1, 5):
            self.assert_same(crew.waiting(), ((number, 0), (number, 1)))
            self.assert_same((crew.row(), crew.deliver(0), crew.deliver(0)), (None, True, True))
        self.assert_same(crew.waiting(), ())

    def test_doubled_parts_are_added_once(self):
        net = some_net(2, width=4, layers=1, letters=2)
        crew = Crew(net, 2)
        crew.begin([], 0)
        self.assert_same((crew.double(0), crew.double(0), crew.double(number=1)), (None, None, None))
        self.assert_same(crew.waiting(), ((0, 0), (0, 1), (0, 0), (0, 0), (0, 1)))
        self.assert_same((crew.deliver(2), crew.deliver(0), crew.deliver(1)), (True, False, False))
        self.assert_same(crew.waiting(), ((0, 1), (0, 1)))
        self.assert_same((crew.deliver(0), crew.waiting()), (True, ((0, 1), (1, 0), (1, 1))))
        # The part that is left over stays, also behind the last round.
        for _ in range(8):
            self.assert_same(crew.deliver(number=1), True)
        self.assert_same((crew.waiting(), crew.row()), (((0, 1),), net.row((), 0)))
        crew.double(0)
        self.assert_same((crew.waiting(), crew.deliver(1)), (((0, 1), (0, 1)), False))
        self.assert_same((crew.lose(0), crew.waiting(), crew.row()), (None, (), net.row((), 0)))

    def test_a_lost_part_is_sent_anew(self):
        crew = Crew(some_net(3, width=2, layers=1, letters=2), 2)
        crew.begin((), 0)
        self.assert_same((crew.lose(number=0), crew.waiting()), (None, ((0, 1), (0, 0))))
        self.assert_same((crew.lose(0), crew.waiting()), (None, ((0, 0), (0, 1))))
        self.assert_same((crew.lose(1), crew.waiting()), (None, ((0, 0), (0, 1))))

    def test_a_lost_part_is_not_sent_anew(self):
        crew = Crew(some_net(3, width=2, layers=1, letters=2), 2)
        crew.begin((), 0)
        crew.double(0)
        # Another one of it is on its way.
        crew.lose(0)
        self.assert_same(crew.waiting(), ((0, 1), (0, 0)))
        crew.double(1)
        crew.lose(2)
        self.assert_same(crew.waiting(), ((0, 1), (0, 0)))
        # It was added already.
        crew.double(1)
        crew.deliver(1)
        self.assert_same(crew.waiting(), ((0, 1), (0, 0)))
        crew.lose(1)
        self.assert_same(crew.waiting(), ((0, 1),))
        # Its round is over.
        crew.double(0)
        crew.deliver(0)
        self.assert_same(crew.waiting(), ((0, 1), (1, 0), (1, 1)))
        crew.lose(0)
        self.assert_same(crew.waiting(), ((1, 0), (1, 1)))

    def test_begin_in_the_midst(self):
        net = some_net(4, width=2, layers=2, letters=3)
        before = rows_of(net, (2, 2))
        for many in range(20):
            crew = Crew(net, 2)
            crew.begin((), 1)
            for number in range(many):
                crew.double(0)
                crew.deliver(number % 2)
            crew.begin(before, 0)
            self.assert_same((crew.waiting(), crew.row()), (((0, 0), (0, 1)), None))
            while crew.row() is None:
                crew.deliver(0)
            self.assert_same((crew.row(), crew.waiting()), (net.row(before, 0), ()))

    def test_before_the_first_begin(self):
        crew = Crew(net=some_net(5, width=2), many=2)
        self.assert_same((crew.row(), crew.waiting()), (None, ()))
        for number in wrong_numbers(0, 0) + [0, 1]:
            for method in (crew.deliver, crew.double, crew.lose):
                self.assert_fails(InvalidNumber, {"number": number}, method, number)
        self.assert_same((crew.row(), crew.waiting()), (None, ()))

    def test_a_net_without_layers(self):
        net = some_net(6, width=3, layers=0, letters=4)
        for many in range(1, 4):
            crew = Crew(net, many)
            self.assert_same((crew.row(), crew.waiting()), (None, ()))
            crew.begin(rows=(), letter=3)
            self.assert_same((crew.row(), crew.waiting()), (net.row((), 3), ()))
            crew.begin([net.row((), 3)], 2)
            self.assert_same((crew.row(), crew.waiting()), (net.row((net.row((), 3),), 2), ()))
            self.assert_fails(InvalidNumber, {"number": 0}, crew.deliver, 0)

    def test_later_changes(self):
        net = some_net(7, width=3, layers=2, letters=4, prime=97)
        before = rows_of(net, (3, 0, 1))
        rows = as_lists(before)
        crew = Crew(net, 3)
        self.assert_keeps(crew.begin, rows, 2)
        for _ in range(7):
            crew.deliver(0)
        spoil(rows)
        rows.append(5)
        while crew.row() is None:
            crew.deliver(0)
        self.assert_same(crew.row(), net.row(before, 2))

    def test_two_crews(self):
        net = some_net(8, width=2, layers=1, letters=4)
        one, other = Crew(net, 2), Crew(net, 1)
        one.begin((), 1)
        other.begin(rows_of(net, (1, 1)), 3)
        while one.row() is None or other.row() is None:
            for crew in (one, other):
                if crew.waiting():
                    crew.deliver(0)
        self.assert_same((one.row(), other.row()), (net.row((), 1), net.row(rows_of(net, (1, 1)), 3)))


class Wrong(Case):
    def test_numbers_of_members(self):
        for width in range(1, 5):
            net = some_net(width, width=width)
            for many in wrong_numbers(1, width):
                self.assert_fails(InvalidNumber, {"number": many}, Crew, net, many)

    def assert_unchanged(self, crew, call, error, named, *arguments):
        """The call fails, and what comes is what comes without it."""
        other = copy.deepcopy(crew)
        self.assert_fails(error, named, call, *arguments)
        while True:
            self.assert_same((crew.waiting(), crew.row()), (other.waiting(), other.row()))
            if not crew.waiting():
                break
            self.assert_same(crew.deliver(0), other.deliver(0))

    def crews(self):
        """Crews that came to different places, with as many parts on their way."""
        for many in range(12):
            crew = Crew(some_net(9, width=2, layers=1, letters=3), 2)
            crew.begin(rows_of(some_net(9, width=2, layers=1, letters=3), (2, 1)), 1)
            crew.double(1)
            for _ in range(many):
                crew.deliver(0)
            yield crew

    def test_places(self):
        for crew in self.crews():
            for number in wrong_numbers(0, len(crew.waiting()) - 1):
                for name in ("deliver", "double", "lose"):
                    again = copy.deepcopy(crew)
                    self.assert_unchanged(again, getattr(again, name), InvalidNumber, {"number": number}, number)

    def test_letters(self):
        for crew in self.crews():
            for letter in wrong_numbers(0, 2):
                again = copy.deepcopy(crew)
                self.assert_unchanged(again, again.begin, InvalidLetter, {"letter": letter}, (), letter)

    def test_letters_before_the_first_begin(self):
        crew = Crew(some_net(9, width=2, layers=0, letters=3), 1)
        self.assert_fails(InvalidLetter, {"letter": 3}, crew.begin, (), 3)
        self.assert_same((crew.row(), crew.waiting()), (None, ()))
