"""Fractions: pairs (top, bottom) in lowest terms."""

from math import gcd

from stretchprices.checks import is_integer, is_tuple
from stretchprices.errors import NoFraction

NOTHING = (0, 1)


def is_fraction(thing):
    """Whether it is a fraction."""
    if not is_tuple(thing, 2) or not is_integer(thing[0]) or not is_integer(thing[1]):
        return False
    return thing[1] >= 1 and gcd(thing[0], thing[1]) == 1


def check_fraction(thing):
    """Raise the error for what is no fraction."""
    if not is_fraction(thing):
        raise NoFraction()


def lowest(top, bottom):
    """The fraction of this value; the bottom is not 0."""
    common = gcd(top, bottom)
    if bottom < 0:
        common = -common
    return top // common, bottom // common


def plus(one, other):
    """The sum of two fractions."""
    return lowest(one[0] * other[1] + other[0] * one[1], one[1] * other[1])


def minus(one, other):
    """One fraction less another one."""
    return lowest(one[0] * other[1] - other[0] * one[1], one[1] * other[1])


def times(one, other):
    """The product of two fractions."""
    return lowest(one[0] * other[0], one[1] * other[1])


def is_at_most(one, other):
    """Whether the value of one fraction is at most that of the other one."""
    return one[0] * other[1] <= other[0] * one[1]
