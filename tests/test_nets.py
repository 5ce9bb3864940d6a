"""[5], [6], [7]: nets and how letters are picked by weights."""

import copy
import random

from servedalone.errors import InvalidLetter, InvalidNumber
from servedalone.nets import Net, by_number, greatest
from tests.helpers import (
    GREAT, PRIMES, Case, as_lists, no_integers, parts_of_net, reckoned_row, reckoned_rows, spoil, wrong_numbers,
)

# Width 1, so that each product can be followed by eye.
NARROW = (7, ((2,), (3,)), (1,), ((((2,),), ((3,),), ((1,),), ((1,),), ((2,),)),), ((1,), (5,)), None)
# Width 2, with matrices that are not symmetric, so that rows and columns can't be confused.
WIDE = (
    11, ((1, 2), (3, 0), (0, 5)), (4, 1),
    ((((1, 2), (0, 1)), ((0, 1), (3, 0)), ((2, 0), (1, 1)), ((1, 0), (4, 2)), ((0, 3), (1, 0))),),
    ((1, 0), (0, 1), (2, 7)), 2,
)


def in_turn(net, letters):
    """The rows that net.row gives for these letters one after the other."""
    rows = ()
    for letter in letters:
        rows = rows + (net.row(rows, letter),)
    return rows


class Primes(Case):
    def test_every_prime_is_taken(self):
        self.assertEqual(len(PRIMES), 25)
        for prime in PRIMES:
            net = Net(prime, ((1,),), (0,), (), ((1,),), None)
            self.assert_same(net.prime, prime)

    def test_whatever_is_none_is_refused(self):
        wrong = [number for number in range(-5, 120) if number not in PRIMES]
        wrong += [-2, -97, 101, 103, 9409, GREAT, -GREAT] + no_integers() + [(2,), [2], "2"]
        for prime in wrong:
            self.assert_fails(InvalidNumber, {"number": prime}, Net, prime, ((1,),), (0,), (), ((1,),), None)

    def test_the_error_keeps_the_very_value(self):
        for prime in [4, GREAT, True, None, "2", (2,), [2]]:
            with self.assertRaises(InvalidNumber) as caught:
                Net(prime, ((1,),), (0,), (), ((1,),), None)
            self.assertIs(caught.exception.number, prime)


class Attributes(Case):
    def test_prime_end_letters(self):
        net = Net(*WIDE)
        self.assert_same((net.prime, net.end, net.letters), (11, 2, 3))
        self.assertIsInstance(Net.letters, property)

    def test_end_may_be_none(self):
        self.assertIs(Net(*NARROW).end, None)

    def test_one_to_twelve_letters(self):
        for letters in range(1, 13):
            parts = parts_of_net(random.Random(letters), letters=letters, end=letters - 1)
            net = Net(*parts)
            self.assert_same((net.letters, net.end), (letters, letters - 1))
            self.assertEqual(len(net.row((), letters - 1)[1]), letters)

    def test_arguments_by_name(self):
        prime, embed, shift, layers, out, end = WIDE
        net = Net(end=end, out=out, layers=layers, shift=shift, embed=embed, prime=prime)
        self.assert_same(net.row(letter=1, rows=()), Net(*WIDE).row((), 1))


class RowsByHand(Case):
    def test_without_layers(self):
        net = Net(5, ((1,), (2,), (3,)), (1,), (), ((1,), (2,), (3,)), 0)
        # x = 2; x = 3 + 1 = 4; x = 1 + 2 = 3; the weights are x, 2x, 3x modulo 5, plus 1.
        first = net.row((), 1)
        self.assert_same(first, ((), (3, 5, 2)))
        second = net.row((first,), 2)
        self.assert_same(second, ((), (5, 4, 3)))
        self.assert_same(net.row((first, second), 0), ((), (4, 2, 5)))

    def test_one_layer_of_width_one(self):
        net = Net(*NARROW)
        # n = 0: x = 2; q, u, w = 4, 6, 2; x = 2 + 24 * 2 = 50 = 1; y = 1; x = 1 + 2 * 1 = 3.
        first = net.row((), 0)
        self.assert_same(first, ((((6,), (2,)),), (4, 2)))
        # n = 1: x = 4; q, u, w = 8 = 1, 12 = 5, 4; x = 4 + 1 * 6 * 2 + 1 * 5 * 4 = 36 = 1; y = 1; x = 3.
        second = net.row((first,), 1)
        self.assert_same(second, ((((5,), (4,)),), (4, 2)))
        # n = 2: x = 2 + 2 = 4; q, u, w = 1, 5, 4; x = 4 + 12 + 20 + 20 = 56 = 0; y = 0; x = 0.
        self.assert_same(net.row((first, second), 0), ((((5,), (4,)),), (1, 1)))

    def test_one_layer_of_width_two(self):
        net = Net(*WIDE)
        # x = (1, 2); q = (5, 2); u = (2, 3); w = (2, 3); q.u = 16 = 5; x = (1 + 10, 2 + 15) = (0, 6);
        # y = (0, 12) = (0, 1); squares (0, 1); x = (0 + 3, 6 + 0) = (3, 6); weights 3, 6, 48 = 4, plus 1.
        first = net.row((), 0)
        self.assert_same(first, ((((2, 3), (2, 3)),), (4, 7, 5)))
        # n = 1: x = (0 + 4, 5 + 1) = (4, 6); q = (16, 6) = (5, 6); u = (6, 12) = (6, 1); w = (8, 10);
        # q.(2, 3) = 28 = 6; q.u = 36 = 3; x = (4 + 12 + 24, 6 + 18 + 30) = (40, 54) = (7, 10);
        # y = (7, 28 + 20) = (7, 4); squares (49, 16) = (5, 5); x = (7 + 15, 10 + 5) = (0, 4);
        # weights 0, 4, 28 = 6, plus 1.
        self.assert_same(net.row((first,), 2), ((((6, 1), (8, 10)),), (1, 5, 7)))

    def test_weights_reach_from_one_to_prime(self):
        net = Net(97, ((0,), (96,)), (0,), (), ((1,), (0,)), None)
        self.assert_same(net.row((), 0), ((), (1, 1)))
        self.assert_same(net.row((), 1), ((), (97, 1)))


class RowsReckoned(Case):
    def test_against_the_document_place_by_place(self):
        seed = 0
        for layers in range(4):
            for width in range(1, 5):
                for prime in PRIMES:
                    seed += 1
                    source = random.Random(seed)
                    parts = parts_of_net(source, prime=prime, width=width, layers=layers)
                    letters = [source.randrange(len(parts[1])) for _ in range(source.randint(1, 6))]
                    self.assert_same(in_turn(Net(*parts), letters), reckoned_rows(parts, letters))

    def test_sixty_letters(self):
        parts = parts_of_net(random.Random(5), prime=89, letters=12, width=4, layers=3)
        letters = [(7 * place) % 12 for place in range(60)]
        self.assert_same(in_turn(Net(*parts), letters), reckoned_rows(parts, letters))

    def test_a_row_depends_on_the_letters_up_to_its_own_alone(self):
        net = Net(*parts_of_net(random.Random(8), letters=4, layers=2))
        self.assert_same(in_turn(net, (1, 2, 3, 0))[:2], in_turn(net, (1, 2, 0, 1))[:2])

    def test_rows_as_tuples_and_as_lists(self):
        for seed in range(20):
            parts = parts_of_net(random.Random(seed), letters=3)
            net = Net(*parts)
            rows = in_turn(net, (0, 1, 2, 1))
            wanted = reckoned_row(parts, rows, 2)
            for passed in (rows, list(rows), as_lists(rows), [list(row) for row in rows]):
                self.assert_same(self.assert_keeps(net.row, passed, 2), wanted)

    def test_two_nets_keep_apart(self):
        one, other = parts_of_net(random.Random(1), letters=2), parts_of_net(random.Random(2), letters=2)
        nets = Net(*one), Net(*other)
        for letter in (0, 1, 0):
            self.assert_same(nets[0].row((), letter), reckoned_row(one, (), letter))
            self.assert_same(nets[1].row((), letter), reckoned_row(other, (), letter))


class PartsOfANet(Case):
    def test_parts_as_lists_that_are_changed_later(self):
        for seed in range(20):
            parts = parts_of_net(random.Random(seed), letters=3, layers=seed % 4)
            lists = [as_lists(part) if isinstance(part, tuple) else part for part in parts]
            before = copy.deepcopy(lists)
            net = Net(*lists)
            self.assert_same(lists, before)
            wanted = reckoned_rows(parts, (0, 2, 1))
            self.assert_same(in_turn(net, (0, 2, 1)), wanted)
            self.assert_same(lists, before)
            spoil(lists)
            self.assert_same((net.prime, net.letters), (parts[0], 3))
            self.assert_same(in_turn(net, (0, 2, 1)), wanted)

    def test_layers_as_lists_of_tuples(self):
        prime, embed, shift, layers, out, end = parts_of_net(random.Random(3), letters=2, layers=2, width=3)
        net = Net(prime, list(embed), list(shift), [list(layer) for layer in layers], list(out), end)
        self.assert_same(in_turn(net, (1, 0)), reckoned_rows((prime, embed, shift, layers, out, end), (1, 0)))


class WrongLetters(Case):
    def test_each_with_its_value(self):
        for letters in (1, 3, 12):
            net = Net(*parts_of_net(random.Random(letters), letters=letters))
            rows = in_turn(net, (0, 0))
            for letter in wrong_numbers(0, letters - 1):
                self.assert_fails(InvalidLetter, {"letter": letter}, net.row, (), letter)
                self.assert_fails(InvalidLetter, {"letter": letter}, net.row, rows, letter)

    def test_a_refused_call_changes_nothing(self):
        parts = parts_of_net(random.Random(4), letters=2)
        net = Net(*parts)
        rows = [net.row((), 1)]
        self.assert_fails(InvalidLetter, {"letter": 2}, net.row, rows, 2)
        self.assert_same(net.row(rows, 0), reckoned_row(parts, tuple(rows), 0))


class Greatest(Case):
    def test_the_lowest_of_equal_ones(self):
        self.assert_same(greatest((1, 5, 5, 2)), 1)
        self.assert_same(greatest((5, 5)), 0)
        self.assert_same(greatest((0, 0, 3)), 2)
        self.assert_same(greatest((3, 0, 0)), 0)

    def test_one_weight(self):
        self.assert_same(greatest((4,)), 0)

    def test_forty_digits(self):
        great = 10 ** 40 - 1
        self.assert_same(greatest((great - 1, great, great - 1, great)), 1)

    def test_lists_and_names(self):
        self.assert_same(self.assert_keeps(greatest, weights=[2, 9, 1]), 1)


class ByNumber(Case):
    def test_each_number_below_the_sum(self):
        self.assert_same([by_number((2, 1, 3), number) for number in range(6)], [0, 0, 1, 2, 2, 2])

    def test_beyond_the_sum(self):
        self.assert_same([by_number((2, 1, 3), number) for number in (6, 8, 11, 6 * 10 ** 39 + 2)], [0, 1, 2, 1])

    def test_noughts_are_never_picked(self):
        self.assert_same([by_number((0, 2, 0, 1, 0), number) for number in range(4)], [1, 1, 3, 1])

    def test_equal_weights(self):
        self.assert_same([by_number((4, 4), number) for number in range(8)], [0] * 4 + [1] * 4)

    def test_one_weight(self):
        self.assert_same([by_number((3,), number) for number in (0, 1, 2, 3, 999999)], [0] * 5)

    def test_forty_digits(self):
        great = 10 ** 39
        self.assert_same(by_number((great, great), great - 1), 0)
        self.assert_same(by_number((great, great), great), 1)
        self.assert_same(by_number((great, great), 2 * great), 0)
        self.assert_same(by_number((great, great, great), 9 * great + great - 1), 0)
        # The remainder of 9 * great by great + 1 is great - 8.
        self.assert_same(by_number((great - 8, 9), 9 * great), 1)
        self.assert_same(by_number((great - 7, 8), 9 * great), 0)

    def test_against_the_sums(self):
        source = random.Random(9)
        for _ in range(300):
            weights = [source.choice([0, 1, 5, source.randrange(10 ** 40)]) for _ in range(source.randint(1, 12))]
            weights[source.randrange(len(weights))] += 1
            number = source.randrange(10 ** 40)
            rest = number % sum(weights)
            wanted = min(letter for letter in range(len(weights)) if sum(weights[:letter + 1]) > rest)
            self.assert_same(self.assert_keeps(by_number, weights, number), wanted)
            self.assert_same(by_number(number=number, weights=tuple(weights)), wanted)
