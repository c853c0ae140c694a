"""[16]: fractions."""

import random
import unittest
from fractions import Fraction
from math import gcd

from deedseen import chances
from deedseen.errors import BadParameter
from tests.helping import (HOSTILE, NO_INTEGERS, NO_TUPLES, assert_first_told, assert_plain, assert_refused,
                           bad_parameter)

NO_FRACTIONS = NO_TUPLES + [(), (1,), (1, 2, 3), (-1, 2), (1, 0), (0, 0), (1, -2), (2, 4), (0, 2), (6, 3), (True, 1),
                            (1, True), (False, 1), (0, True), (1.0, 2), (1, 2.0), ("1", 2), (None, 1), (HOSTILE, 1),
                            (1, HOSTILE), [1, 2], ((1, 2), 1), (10 ** 60, 10 ** 59)]


def pair(fraction):
    return fraction.numerator, fraction.denominator


def numbers(chooser, many):
    """Small and very great integers, some with many common divisors."""
    greatest = 10 ** 60
    found = [0, 1, 2, 3, 4, 6, 12, 720720, greatest, greatest - 1, 2 ** 200, 2 ** 100 * 3 ** 60]
    return found + [chooser.randint(0, chooser.choice([9, 10 ** 6, greatest])) for _ in range(many)]


class ChancesTest(unittest.TestCase):

    def test_reduced(self):
        chooser = random.Random(16)
        for above in numbers(chooser, 30):
            for below in numbers(chooser, 30):
                if below:
                    found = chances.reduced(above, below)
                    self.assertEqual(found, pair(Fraction(above, below)))
                    assert_plain(self, found)

    def test_reduced_edges(self):
        self.assertEqual(chances.reduced(0, 5), (0, 1))
        self.assertEqual(chances.reduced(7, 7), (1, 1))
        self.assertEqual(chances.reduced(12, 4), (3, 1))
        self.assertEqual(chances.reduced(above=10, below=4), (5, 2))

    def test_reduced_refuses(self):
        for value in NO_INTEGERS + [-1, -10 ** 60]:
            assert_refused(self, BadParameter, {"value": value}, chances.reduced, value, 1)
        for value in NO_INTEGERS + [0, -1, -10 ** 60]:
            assert_refused(self, BadParameter, {"value": value}, chances.reduced, 1, value)
        assert_first_told(self, chances.reduced, {"above": 1, "below": 2},
                          {"above": bad_parameter(-1), "below": bad_parameter(0)})

    def compare(self, one, other):
        first, second = pair(one), pair(other)
        found = [chances.plus(first, second), chances.times(first, second)]
        told = [pair(one + other), pair(one * other)]
        if other:
            found.append(chances.over(first, second))
            told.append(pair(one / other))
        self.assertEqual(found, told)
        assert_plain(self, tuple(found))
        for above, below in found:
            self.assertEqual(gcd(above, below), 1)

    def test_sums_products_quotients(self):
        chooser = random.Random(161)
        great = numbers(chooser, 20)
        fractions = [Fraction(above, below) for above in great[::2] for below in great[1::2] if below]
        for one in fractions[::3]:
            for other in fractions[::2]:
                self.compare(one, other)

    def test_all_small_ones(self):
        fractions = [Fraction(above, below) for above in range(7) for below in range(1, 7)]
        for one in fractions:
            for other in fractions:
                self.compare(one, other)

    def test_noughts_and_wholes(self):
        self.assertEqual(chances.plus((0, 1), (0, 1)), (0, 1))
        self.assertEqual(chances.plus((1, 2), (1, 2)), (1, 1))
        self.assertEqual(chances.times((0, 1), (3, 4)), (0, 1))
        self.assertEqual(chances.over((0, 1), (3, 4)), (0, 1))
        self.assertEqual(chances.over((3, 4), (3, 4)), (1, 1))
        self.assertEqual(chances.over(one=(1, 1), other=(2, 3)), (3, 2))

    def test_no_fractions(self):
        for function in (chances.plus, chances.times, chances.over):
            for value in NO_FRACTIONS:
                assert_refused(self, BadParameter, {"value": value}, function, value, (1, 2))
                assert_refused(self, BadParameter, {"value": value}, function, (1, 2), value)
            assert_first_told(self, function, {"one": (1, 2), "other": (3, 1)},
                              {"one": bad_parameter((2, 4)), "other": bad_parameter((3, 0))})

    def test_over_none(self):
        for one in [(0, 1), (1, 1), (5, 3)]:
            assert_refused(self, BadParameter, {"value": (0, 1)}, chances.over, one, (0, 1))
        assert_refused(self, BadParameter, {"value": (2, 2)}, chances.over, (2, 2), (0, 1))
        self.assertEqual(chances.over((0, 1), (1, 1)), (0, 1))


class SumOfTest(unittest.TestCase):

    def test_many_pairs(self):
        chooser = random.Random(162)
        for many in (0, 1, 2, 3, 5, 8, 40):
            pairs = [(chooser.randint(0, 60), chooser.randint(1, 60)) for _ in range(many)]
            self.assertEqual(chances.sum_of(pairs), pair(sum((Fraction(*told) for told in pairs), Fraction(0))))


if __name__ == "__main__":
    unittest.main()
