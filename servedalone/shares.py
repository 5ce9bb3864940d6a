"""Shares: fractions of integers, in lowest terms."""

from math import gcd

from servedalone.errors import InvalidNumber


class Share:
    """The fraction over / under, in lowest terms, with under above 0."""

    def __init__(self, over, under):
        if under == 0:
            raise InvalidNumber(under)
        common = gcd(over, under)
        if under < 0:
            common = -common
        self.over = over // common
        self.under = under // common

    def __add__(self, other):
        return Share(self.over * other.under + other.over * self.under, self.under * other.under)

    def __sub__(self, other):
        return Share(self.over * other.under - other.over * self.under, self.under * other.under)

    def __mul__(self, other):
        return Share(self.over * other.over, self.under * other.under)

    def __eq__(self, other):
        return isinstance(other, Share) and self.over == other.over and self.under == other.under

    def is_below(self, other):
        """Whether this share is less than the other one."""
        return self.over * other.under < other.over * self.under


def lesser_of(share, other):
    """The lesser one of two shares."""
    if other.is_below(share):
        return other
    return share
