"""[3], [18]: factors by plain sums, what is set by hand, and whether a world is open."""

import random
import unittest
from fractions import Fraction
from math import gcd

from deedseen.drawings import parents_of, rooms
from deedseen.worlds import factor, is_open, set_chances
from tests.helping import all_drawings, assert_plain, lots, some_drawing, some_of, some_world, subsets
from tests.plain import plain_factor, ranges


def as_fractions(case, chances):
    for above, below in chances:
        case.assertTrue(0 <= above <= below and gcd(above, below) == 1)
    assert_plain(case, chances)
    return [Fraction(above, below) for above, below in chances]


EXAMPLE = (2, ((0, 1),), ((0, 1),))
EXAMPLE_WORLD = ((2, 2), ((1, 1),), (((1, 0), (0, 1)), ((1, 0), (0, 1), (0, 1), (1, 0))))


class FactorTest(unittest.TestCase):

    def compare(self, drawing, world):
        count = drawing[0]
        for lot in lots(count):
            plain = plain_factor(drawing, world, lot)
            self.assertEqual(as_fractions(self, factor(drawing, world, lot)), plain)
            rest = tuple(thing for thing in range(count) if thing not in lot)
            self.assertIs(is_open(drawing, world, rest), min(plain) > 0)

    def test_all_lots_of_small_worlds(self):
        chooser = random.Random(18)
        for count in (1, 2, 3):
            for drawing in all_drawings(count):
                self.compare(drawing, some_world(chooser, drawing, hidden=tuple(
                    chooser.randint(1, 3 if len(drawing[2]) < 3 else 1) for _ in drawing[2])))

    def test_worlds_with_many_values_and_great_weights(self):
        chooser = random.Random(181)
        for _ in range(25):
            drawing = some_drawing(chooser, 3)[:2] + (((0, 1), (0, 1, 2)),)
            sizes = tuple(chooser.randint(1, 3) for _ in range(3))
            hidden = tuple(chooser.randint(1, 4) for _ in range(2))
            self.compare(drawing, some_world(chooser, drawing, sizes, hidden, 0, 10 ** 6 - 1))

    def test_worlds_of_four_things(self):
        chooser = random.Random(182)
        for _ in range(12):
            drawing = some_drawing(chooser, 4)[:2] + (((0, 1, 2, 3), (0, 2), (1, 3)),)
            self.compare(drawing, some_world(chooser, drawing, hidden=(2, 1, 2)))

    def test_the_last_key_changes_fastest(self):
        # The thing 2 has the parents 0 and 1 and the causes 0 and 1: each row of its table has a weight of its own.
        drawing = (3, ((0, 2), (1, 2)), ((0, 2), (1, 2)))
        table = tuple((row + 1, 1000 - row) for row in range(2 * 3 * 2 * 2))
        world = ((2, 3, 2), ((0, 1), (1, 0)), (((1, 1),) * 2, ((1, 1, 1),) * 2, table))
        # The cause 0 has the value 1, the cause 1 the value 0.
        told = factor(drawing, world, (2,))
        rows = list(ranges((2, 3, 2)))
        for row, chance in zip(rows, told):
            number = ((row[0] * 3 + row[1]) * 2 + 1) * 2
            weight = number + 1 if row[2] == 0 else 1000 - number
            self.assertEqual(Fraction(*chance), Fraction(weight, 1001))

    def test_example(self):
        told = factor(EXAMPLE, EXAMPLE_WORLD, (0, 1))
        self.assertEqual(told, ((1, 2), (0, 1), (1, 2), (0, 1)))
        self.assertEqual(factor(EXAMPLE, EXAMPLE_WORLD, (1,)), ((1, 2),) * 4)
        self.assertEqual(factor(EXAMPLE, EXAMPLE_WORLD, lot=()), ((1, 1),) * 4)
        self.assertEqual(set_chances(EXAMPLE, EXAMPLE_WORLD, ((0, 1),)), ((0, 1), (0, 1), (1, 2), (1, 2)))
        self.assertIs(is_open(EXAMPLE, EXAMPLE_WORLD, ()), False)
        self.assertIs(is_open(EXAMPLE, EXAMPLE_WORLD, (0,)), True)

    def test_one_thing(self):
        self.assertEqual(factor((1, (), ()), ((1,), (), (((10 ** 6,),),)), (0,)), ((1, 1),))
        self.assertEqual(factor((1, (), ()), ((3,), (), (((1, 0, 3),),)), (0,)), ((1, 4), (0, 1), (3, 4)))

    def test_ten_things_in_a_row(self):
        arrows = tuple((thing, thing + 1) for thing in range(9))
        drawing = (10, arrows, ())
        world = ((2,) * 10, (), (((1, 2),),) + (((3, 1), (1, 3)),) * 9)
        told = factor(drawing, world, tuple(range(10)))
        self.assertEqual(len(told), 1024)
        for row, chance in zip(ranges((2,) * 10), told):
            turns = sum(one != other for one, other in zip(row, row[1:]))
            self.assertEqual(Fraction(*chance), Fraction(1 + row[0], 3) * Fraction(3 ** (9 - turns), 4 ** 9))

    def test_two_things_with_64_values_each(self):
        drawing = (2, ((0, 1),), ((0, 1),))
        tables = (((1,) * 64,) * 4, tuple((row + 1,) + (1,) * 63 for row in range(256)))
        world = ((64, 64), ((1, 1, 1, 1),), tables)
        told = factor(drawing, world, (1,))
        self.assertEqual(len(told), 4096)
        for first in range(64):
            weights = [first * 4 + value + 1 for value in range(4)]
            chance = sum(Fraction(weight, 63 + weight) for weight in weights) / 4
            self.assertEqual(Fraction(*told[first * 64]), chance)
        self.assertIs(is_open(drawing, world, ()), True)

    def test_many_hidden_values_of_unlike_weights(self):
        chooser = random.Random(183)
        drawing = (3, (), ((0, 1), (0, 2)))
        world = some_world(chooser, drawing, (2, 1, 1), (64, 64), 1, 10 ** 6 - 1)
        told = factor(drawing, world, (0,))
        self.assertEqual(sum(Fraction(*chance) for chance in told), 1)


class FactsTest(unittest.TestCase):

    def worlds(self, seed, least=0):
        chooser = random.Random(seed)
        for drawing in all_drawings(3)[::3]:
            yield drawing, some_world(chooser, drawing, hidden=tuple(
                chooser.randint(1, 2 if len(drawing[2]) < 3 else 1) for _ in drawing[2]), least=least)

    def test_of_no_things(self):
        for drawing, world in self.worlds(1):
            self.assertEqual(set(factor(drawing, world, ())), {(1, 1)})

    def test_summed_over_a_thing_that_moves_none_of_the_lot(self):
        for drawing, world in self.worlds(2):
            rows = list(ranges(world[0]))
            for lot in lots(3):
                told = dict(zip(rows, as_fractions(self, factor(drawing, world, lot))))
                for thing in lot:
                    if any(thing in parents_of(drawing, lot, other) for other in lot):
                        continue
                    less = factor(drawing, world, tuple(other for other in lot if other != thing))
                    for row, chance in zip(rows, as_fractions(self, less)):
                        values = range(world[0][thing])
                        summed = sum(told[row[:thing] + (value,) + row[thing + 1:]] for value in values)
                        self.assertEqual(summed, chance)

    def test_does_not_hang_on_other_things(self):
        for drawing, world in self.worlds(3):
            for lot in lots(3):
                near = set(lot).union(*[parents_of(drawing, (0, 1, 2), thing) for thing in lot])
                told = {}
                for row, chance in zip(ranges(world[0]), factor(drawing, world, lot)):
                    key = tuple(row[thing] for thing in sorted(near))
                    self.assertEqual(told.setdefault(key, chance), chance)

    def test_product_of_the_rooms(self):
        for drawing, world in self.worlds(4):
            for lot in lots(3):
                together = [Fraction(1)] * len(factor(drawing, world, ()))
                for room in rooms(drawing, lot):
                    part = as_fractions(self, factor(drawing, world, room))
                    together = [one * other for one, other in zip(together, part)]
                self.assertEqual(as_fractions(self, factor(drawing, world, lot)), together)

    def test_open_if_all_weights_are_above_0(self):
        for drawing, world in self.worlds(5, least=1):
            for tried in lots(3):
                self.assertIs(is_open(drawing, world, tried), True)


class SetByHandTest(unittest.TestCase):

    def test_none_some_and_all_things(self):
        chooser = random.Random(19)
        for drawing in all_drawings(3)[::4]:
            world = some_world(chooser, drawing, hidden=(1,) * len(drawing[2]))
            rows = list(ranges(world[0]))
            for things in subsets(range(3)):
                deed = tuple((thing, chooser.randrange(world[0][thing])) for thing in things)
                told = as_fractions(self, set_chances(drawing, world, deed))
                plain = plain_factor(drawing, world, [thing for thing in range(3) if thing not in things])
                for row, chance, part in zip(rows, told, plain):
                    agrees = all(row[thing] == value for thing, value in deed)
                    self.assertEqual(chance, part if agrees else 0)
                self.assertEqual(sum(told), 1)

    def test_nothing_and_everything_set(self):
        self.assertEqual(set_chances(EXAMPLE, EXAMPLE_WORLD, ()), factor(EXAMPLE, EXAMPLE_WORLD, (0, 1)))
        self.assertEqual(set_chances(EXAMPLE, EXAMPLE_WORLD, deed=((0, 1), (1, 0))),
                         ((0, 1), (0, 1), (1, 1), (0, 1)))

    def test_together_1_in_greater_worlds(self):
        chooser = random.Random(191)
        for _ in range(10):
            drawing = some_drawing(chooser, 6)
            world = some_world(chooser, drawing, hidden=(1,) * len(drawing[2]))
            deed = tuple((thing, chooser.randrange(world[0][thing])) for thing in some_of(chooser, range(6)))
            self.assertEqual(sum(as_fractions(self, set_chances(drawing, world, deed))), 1)


class IsOpenTest(unittest.TestCase):

    def test_nothing_some_and_all_tried(self):
        # The thing 1 is never 1 if 0 is 0.
        drawing = (2, ((0, 1),), ())
        world = ((2, 2), (), (((1, 1),), ((1, 0), (1, 1))))
        told = {tried: is_open(drawing, world, tried) for tried in lots(2)}
        self.assertEqual(told, {(): False, (0,): False, (1,): True, (0, 1): True})
        self.assertIs(is_open(drawing, world, tried=(1,)), True)

    def test_a_hidden_value_without_chance(self):
        drawing = (2, (), ((0, 1),))
        tables = (((1, 0), (0, 1)), ((1, 1), (1, 1)))
        self.assertIs(is_open(drawing, ((2, 2), ((1, 1),), tables), ()), True)
        self.assertIs(is_open(drawing, ((2, 2), ((1, 0),), tables), ()), False)
        self.assertIs(is_open(drawing, ((2, 2), ((1, 0),), tables), (0,)), True)


if __name__ == "__main__":
    unittest.main()
