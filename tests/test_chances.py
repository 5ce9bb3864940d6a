"""[22] and [34]: chances."""

import itertools
import random
from fractions import Fraction

from servedalone.asks import Ask
from servedalone.chances import next_shares, round_shares, text_share, told_shares
from servedalone.errors import InvalidLetter
from servedalone.nets import Net
from servedalone.plain import written
from servedalone.rules import Rule
from servedalone.shares import Share
from tests.helpers import COUNTING, EVEN, Case, as_lists, parts_of_net, reckoned_rows, some_rule, wrong_numbers
from tests.pairs import some_parts, some_served


def fraction(share):
    return Fraction(share.over, share.under)


def fractions_of(parts, letters):
    """The share of each letter behind these, from the document's words."""
    weights = reckoned_rows(parts, letters)[-1][1]
    return [Fraction(weight, sum(weights)) for weight in weights]


def fraction_of_text(parts, prompt, text):
    product = Fraction(1)
    for place, letter in enumerate(text):
        product *= fractions_of(parts, tuple(prompt) + tuple(text[:place]))[letter]
    return product


def round_by_all_ways(parts, lesser, prompt, many):
    """What a round can write: every way of drawing and accepting gone through on its own."""
    rows = {}

    def add(row, chance):
        rows[row] = rows.get(row, 0) + chance

    def go_on(accepted, drawn, chance):
        """Behind these accepted letters come the letters drawn."""
        by_net = fractions_of(parts, prompt + accepted)
        if not drawn:
            for letter, share in enumerate(by_net):
                add(accepted + (letter,), chance * share)
            return
        by_lesser = fractions_of(lesser, prompt + accepted)
        letter = drawn[0]
        accept = min(Fraction(1), by_net[letter] / by_lesser[letter])
        go_on(accepted + (letter,), drawn[1:], chance * accept)
        above = [max(p - q, 0) for p, q in zip(by_net, by_lesser)]
        if accept < 1:
            for instead, part in enumerate(above):
                add(accepted + (instead,), chance * (1 - accept) * part / sum(above))

    for drawn in itertools.product(range(len(parts[1])), repeat=many):
        chance = Fraction(1)
        for place, letter in enumerate(drawn):
            chance *= fractions_of(lesser, prompt + drawn[:place])[letter]
        go_on((), drawn, chance)
    return {row: chance for row, chance in rows.items() if chance > 0}


class ChanceCase(Case):
    def assert_shares(self, found, wanted):
        """A tuple of shares, which are these fractions."""
        self.assertIs(type(found), tuple)
        self.assertEqual({type(share) for share in found} - {Share}, set())
        pairs = [(share.over, share.under) for share in found]
        self.assertEqual(pairs, [(one.numerator, one.denominator) for one in wanted])


class NextShares(ChanceCase):
    def test_by_hand(self):
        self.assert_shares(next_shares(Net(*EVEN), (1,)), [Fraction(one, 10) for one in (1, 2, 3, 4)])
        found = next_shares(letters=[3, 0, 1], net=Net(*COUNTING))
        self.assert_shares(found, [Fraction(one, 5) for one in (1, 1, 2, 1)])

    def test_against_a_reckoning(self):
        for seed in range(80):
            source = random.Random(seed)
            parts = parts_of_net(source, end=source.choice([None, 0]))
            letters = tuple(source.randrange(len(parts[1])) for _ in range(source.randint(1, 20)))
            found = self.assert_keeps(next_shares, Net(*parts), as_lists(letters))
            self.assert_shares(found, fractions_of(parts, letters))
            self.assertEqual(sum(fraction(share) for share in found), 1)


class TextShare(ChanceCase):
    def test_no_letters(self):
        self.assert_shares((text_share(Net(*EVEN), (1, 2), ()),), [Fraction(1)])
        self.assert_shares((text_share(Net(*EVEN), [1], []),), [Fraction(1)])

    def test_by_hand(self):
        net = Net(*EVEN)
        self.assert_shares((text_share(net, (1,), (0,)),), [Fraction(1, 10)])
        self.assert_shares((text_share(text=(3, 0, 2), prompt=(1,), net=net),), [Fraction(12, 1000)])

    def test_against_a_reckoning(self):
        for seed in range(60):
            source = random.Random(seed)
            parts = parts_of_net(source, end=source.choice([None, 0]))
            rows = [tuple(source.randrange(len(parts[1])) for _ in range(source.randint(1, 9))) for _ in range(2)]
            found = self.assert_keeps(text_share, Net(*parts), *as_lists(rows))
            self.assert_shares((found,), [fraction_of_text(parts, *rows)])

    def test_all_texts_of_a_length_sum_up_to_1(self):
        for seed in range(5):
            parts = parts_of_net(random.Random(seed), letters=3, width=2, layers=1, end=seed % 3)
            texts = itertools.product(range(3), repeat=3)
            self.assertEqual(sum(fraction(text_share(Net(*parts), (0, 2), text)) for text in texts), 1)


class RoundShares(ChanceCase):
    def assert_round(self, found, wanted):
        """The pairs are those of this dict, in their order."""
        self.assertIs(type(found), tuple)
        self.assertEqual({type(pair) for pair in found}, {tuple})
        self.assert_same([row for row, _ in found], sorted(wanted))
        self.assert_shares(tuple(share for _, share in found), [wanted[row] for row in sorted(wanted)])

    def test_by_hand(self):
        # Letter 0 has 1/4 and 1/2, letter 1 has 3/4 and 1/2.
        net = Net(5, ((1,), (1,)), (0,), (), ((0,), (2,)), None)
        lesser = Net(5, ((1,), (1,)), (0,), (), ((3,), (3,)), None)
        wanted = {
            (0, 0): Fraction(1, 16), (0, 1): Fraction(3, 16), (1,): Fraction(1, 4), (1, 0): Fraction(1, 8),
            (1, 1): Fraction(3, 8),
        }
        self.assert_round(round_shares(net, lesser, (0,), 1), wanted)
        self.assert_round(round_shares(many=1, prompt=[0], lesser=lesser, net=net), wanted)

    def test_the_same_net_twice(self):
        parts = parts_of_net(random.Random(3), letters=3, width=2, layers=1, end=1)
        for many in (1, 2, 3):
            rows = list(itertools.product(range(3), repeat=many + 1))
            wanted = {row: fraction_of_text(parts, (2, 0), row) for row in rows}
            self.assert_round(round_shares(Net(*parts), Net(*parts), (2, 0), many), wanted)

    def test_against_all_ways(self):
        for seed in range(40):
            source = random.Random(seed)
            letters = source.choice([1, 2, 2, 3])
            parts, lesser = [
                parts_of_net(source, letters=letters, width=source.randint(1, 3), layers=source.randint(0, 2), end=end)
                for end in (source.choice([None, 0]), None)
            ]
            prompt = tuple(source.randrange(letters) for _ in range(source.randint(1, 4)))
            many = source.randint(1, 3)
            found = self.assert_keeps(round_shares, Net(*parts), Net(*lesser), as_lists(prompt), many)
            self.assert_round(found, round_by_all_ways(parts, lesser, prompt, many))

    def test_sums(self):
        for seed in range(12):
            source = random.Random(seed)
            letters, many = source.choice([2, 3, 4]), source.randint(1, 3)
            parts, lesser = [parts_of_net(source, letters=letters, layers=source.randint(0, 1)) for _ in range(2)]
            prompt = (0, letters - 1)
            found = round_shares(Net(*parts), Net(*lesser), prompt, many)
            self.assertEqual(len({row for row, _ in found}), len(found))
            self.assertEqual(sum(fraction(share) for _, share in found), 1)
            self.assertTrue(all(share.over > 0 for _, share in found))
            for text in itertools.product(range(letters), repeat=many + 1):
                sums = sum(
                    fraction(share) * fraction_of_text(parts, prompt + row, text[len(row):])
                    for row, share in found if text[:len(row)] == row
                )
                self.assertEqual(sums, fraction_of_text(parts, prompt, text))

    def test_twelve_letters(self):
        parts, lesser = [parts_of_net(random.Random(seed), letters=12, width=1, layers=0) for seed in (1, 2)]
        found = round_shares(Net(*parts), Net(*lesser), (3,), 2)
        self.assertEqual(sum(fraction(share) for _, share in found), 1)
        self.assertEqual([row for row, _ in found], sorted(row for row, _ in found))


class ToldShares(ChanceCase):
    def wanted(self, parts, ask, text):
        found = []
        for place, letter in enumerate(text):
            weights = reckoned_rows(parts, ask.prompt + text[:place])[-1][1]
            let = [one for one in range(len(weights)) if ask.rule is None or ask.rule.lets(text[:place], one)]
            found.append(Fraction(weights[letter], sum(weights[one] for one in let)))
        return found

    def test_by_hand(self):
        net = Net(*EVEN)
        self.assert_shares(told_shares(net, Ask((1,), 9), (3, 3)), [Fraction(4, 10)] * 2)
        ask = Ask((1,), 9, rule=Rule(0, ((0, 0, 1, None), (None, 0, None, None))))
        self.assert_same(written(net, ask)[0][:3], (2, 1, 2))
        self.assert_shares(told_shares(text=[2, 1, 2], ask=ask, net=net), [Fraction(3, 6), Fraction(1), Fraction(3, 6)])

    def test_no_letters(self):
        self.assert_same(told_shares(Net(*EVEN), Ask((1,), 9), ()), ())
        self.assert_same(told_shares(Net(*EVEN), Ask((1,), 9), []), ())

    def test_each_beginning_of_what_is_written(self):
        for seed in range(60):
            source = random.Random(seed)
            parts = some_parts(source)
            ask = some_served(source, len(parts[1]), 8, 9)
            if seed % 2:
                ask = Ask(ask.prompt, ask.most, tape=ask.tape, rule=some_rule(source, len(parts[1])))
            text, _ = written(Net(*parts), ask)
            for many in range(len(text) + 1):
                found = self.assert_keeps(told_shares, Net(*parts), ask, list(text[:many]))
                self.assert_shares(found, self.wanted(parts, ask, text[:many]))

    def test_wrong_letters(self):
        net = Net(*EVEN)
        for letter in wrong_numbers(0, 3):
            asks = (
                Ask((letter,), 9), Ask((0, letter, 9), 9, stops=((8,),)), Ask((0,), 9, stops=((1,), (2, letter), (9,))),
            )
            for ask in asks:
                self.assert_fails(InvalidLetter, {"letter": letter}, told_shares, net, ask, ())
        self.assert_fails(InvalidLetter, {"letter": 5}, told_shares, net, Ask((1, 5), 9, stops=((7,),)), ())
