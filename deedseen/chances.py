"""Fractions: pairs of integers without a common divisor; chances are some of them."""

from math import gcd, lcm

from deedseen.errors import BadParameter
from deedseen.lots import is_tuple_of


def is_fraction(value):
    """Whether a value is a fraction."""
    if not is_tuple_of(value, 2):
        return False
    above, below = value
    if type(above) is not int or type(below) is not int:
        return False
    return above >= 0 and below >= 1 and gcd(above, below) == 1


def is_chance(value):
    """Whether a value is a chance: a fraction of 1 at most."""
    return is_fraction(value) and value[0] <= value[1]


def reduced(above, below):
    """The fraction of two integers."""
    if type(above) is not int or above < 0:
        raise BadParameter(above)
    if type(below) is not int or below < 1:
        raise BadParameter(below)
    common = gcd(above, below)
    return above // common, below // common


def _need_fractions(one, other):
    for value in (one, other):
        if not is_fraction(value):
            raise BadParameter(value)


def plus(one, other):
    """The sum of two fractions."""
    _need_fractions(one, other)
    return reduced(one[0] * other[1] + other[0] * one[1], one[1] * other[1])


def times(one, other):
    """The product of two fractions."""
    _need_fractions(one, other)
    return reduced(one[0] * other[0], one[1] * other[1])


def over(one, other):
    """The first one of two fractions, divided by the second one."""
    _need_fractions(one, other)
    if other[0] == 0:
        raise BadParameter(other)
    return reduced(one[0] * other[1], one[1] * other[0])


def sum_of(pairs):
    """The fraction that pairs (ABOVE, BELOW), perhaps not reduced, come to together."""
    tops = {1: 0}
    for above, below in pairs:
        tops[below] = tops.get(below, 0) + above
    parts = [(above, below) for below, above in tops.items()]
    # By twos, and reduced at the end alone: one by one, each of many unlike
    # numbers below would be worked into a sum that is long already.
    while len(parts) > 1:
        parts = [_sum_of_some(parts[at:at + 2]) for at in range(0, len(parts), 2)]
    return reduced(parts[0][0], parts[0][1])


def _sum_of_some(pairs):
    if len(pairs) == 1:
        return pairs[0]
    (one, below_one), (other, below_other) = pairs
    below = lcm(below_one, below_other)
    return one * (below // below_one) + other * (below // below_other), below
