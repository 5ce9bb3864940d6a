"""[21]: shares."""

import random
from fractions import Fraction

from servedalone.asks import Ask
from servedalone.errors import InvalidNumber
from servedalone.rules import Rule
from servedalone.shares import Share, lesser_of
from tests.helpers import Case


def some_integer(source):
    """An integer of up to forty digits, often a small one."""
    return source.choice([-1, 1]) * source.randrange(10 ** source.choice([1, 1, 2, 5, 20, 40]))


def some_pair(source):
    """An integer and one that is not 0."""
    over, under = some_integer(source), some_integer(source)
    return over, under or 1


class ShareCase(Case):
    def assert_share(self, share, over, under):
        self.assertIs(type(share), Share)
        self.assert_same((share.over, share.under), (over, under))

    def assert_fraction(self, share, fraction):
        self.assert_share(share, fraction.numerator, fraction.denominator)


class LowestTerms(ShareCase):
    def test_small_ones(self):
        for over, under, wanted in (
            (1, 2, (1, 2)), (2, 4, (1, 2)), (6, 3, (2, 1)), (0, 5, (0, 1)), (0, -5, (0, 1)), (0, 1, (0, 1)),
            (7, 7, (1, 1)), (-6, 4, (-3, 2)), (6, -4, (-3, 2)), (-6, -4, (3, 2)), (5, -1, (-5, 1)),
            (-1, -1, (1, 1)), (12, 18, (2, 3)),
        ):
            self.assert_share(Share(over, under), *wanted)
            self.assert_share(Share(under=under, over=over), *wanted)

    def test_against_fractions(self):
        for seed in range(500):
            over, under = some_pair(random.Random(seed))
            self.assert_fraction(Share(over, under), Fraction(over, under))

    def test_forty_digits(self):
        many = 10 ** 39 + 1
        self.assert_share(Share(many * 6, -many * 4), -3, 2)
        self.assert_share(Share(many, many + 1), many, many + 1)

    def test_an_under_of_0(self):
        for over in (-3, 0, 1, 10 ** 39):
            self.assert_fails(InvalidNumber, {"number": 0}, Share, over, 0)
        self.assert_fails(InvalidNumber, {"number": 0}, Share, under=0, over=1)


class Reckoning(ShareCase):
    def test_against_fractions(self):
        for seed in range(500):
            source = random.Random(seed)
            pairs = some_pair(source), some_pair(source)
            one, other = Share(*pairs[0]), Share(*pairs[1])
            left, right = Fraction(*pairs[0]), Fraction(*pairs[1])
            self.assert_fraction(one + other, left + right)
            self.assert_fraction(one - other, left - right)
            self.assert_fraction(one * other, left * right)
            self.assert_same(one == other, left == right)
            self.assert_same(one != other, left != right)
            self.assert_same(one.is_below(other), left < right)
            self.assert_same(one.is_below(other=one), False)
            self.assert_fraction(lesser_of(one, other), min(left, right))
            self.assert_fraction(lesser_of(other=one, share=other), min(left, right))
            # Both are as before.
            self.assert_fraction(one, left)
            self.assert_fraction(other, right)

    def test_by_hand(self):
        half, third = Share(1, 2), Share(2, 6)
        self.assert_share(half + third, 5, 6)
        self.assert_share(half - third, 1, 6)
        self.assert_share(third - half, -1, 6)
        self.assert_share(half * third, 1, 6)
        self.assert_share(half + half, 1, 1)
        self.assert_share(half - half, 0, 1)
        self.assert_share(half * Share(0, 3), 0, 1)
        self.assert_share(Share(-1, 2) * Share(1, -2), 1, 4)
        self.assert_same((third.is_below(half), half.is_below(third), half.is_below(Share(3, 6))), (True, False, False))
        self.assert_same((Share(-1, 2).is_below(Share(-1, 3)), Share(-1, 3).is_below(Share(0, 1))), (True, True))
        self.assertIs(lesser_of(half, third), third)
        self.assertIs(lesser_of(third, half), third)

    def test_a_share_with_itself(self):
        share = Share(3, 4)
        self.assert_share(share + share, 3, 2)
        self.assert_share(share * share, 9, 16)
        share += Share(1, 4)
        self.assert_share(share, 1, 1)
        self.assert_share(lesser_of(share, Share(1, 1)), 1, 1)


class Equal(ShareCase):
    def test_in_unlike_terms(self):
        pairs = (((1, 2), (2, 4)), ((-1, 2), (1, -2)), ((0, 3), (0, -7)), ((4, 2), (2, 1)), ((5, 5), (-1, -1)))
        for one, other in pairs:
            self.assert_same((Share(*one) == Share(*other), Share(*one) != Share(*other)), (True, False))

    def test_unlike_ones(self):
        for one, other in (((1, 2), (1, 3)), ((1, 2), (-1, 2)), ((2, 3), (1, 3)), ((1, 2), (2, 1)), ((0, 1), (1, 1))):
            self.assert_same((Share(*one) == Share(*other), Share(*one) != Share(*other)), (False, True))

    def test_beside_things_of_another_kind(self):
        things = (
            0, 1, True, None, "1/2", (1, 2), [1, 2], {}, Fraction(1, 2), Fraction(1, 1), 0.5, Rule(0, ((0,),)),
            Ask((1,), 1), object(), Share,
        )
        for share in (Share(1, 2), Share(0, 1), Share(1, 1)):
            for thing in things:
                self.assert_same((share == thing, share != thing), (False, True))
                self.assert_same((thing == share, thing != share), (False, True))
