"""[42]: drawings without a thing."""

import random
import unittest
from itertools import permutations

from deedseen.drawings import need_drawing
from deedseen.errors import BadDrawing, BadLot, BadParameter, TooGreat
from deedseen.hiding import hidden, shown
from tests.helping import (BAD_DRAWING, EXAMPLE, HOSTILE, NO_INTEGERS, NO_TUPLES, all_arrows, all_causes, all_drawings,
                           assert_first_told, assert_plain, assert_refused, bad_lot, bad_parameter, lots, some_drawing,
                           some_of, subsets)
from tests.plain_hiding import PlainTooGreat, plain_hidden


class HiddenTest(unittest.TestCase):

    def compare(self, drawing):
        for thing in range(drawing[0]):
            try:
                plain = plain_hidden(drawing, thing)
            except PlainTooGreat:
                assert_refused(self, TooGreat, {"most": 20}, hidden, drawing, thing)
                continue
            told = hidden(drawing, thing)
            self.assertEqual(told, plain)
            self.assertIs(need_drawing(told), told)
            assert_plain(self, told)

    def test_all_small_drawings(self):
        for drawing in all_drawings(2) + all_drawings(3):
            self.compare(drawing)

    def test_all_arrows_of_four_things_with_up_to_two_causes(self):
        chooser = random.Random(42)
        every = [some for some in subsets(all_causes(4)) if len(some) <= 2]
        for arrows in subsets(all_arrows(4)):
            for causes in chooser.sample(every, 8):
                self.compare((4, arrows, causes))

    def test_greater_drawings(self):
        chooser = random.Random(421)
        for count in range(4, 11):
            for _ in range(60):
                self.compare(some_drawing(chooser, count))
            for _ in range(20):
                causes = some_of(chooser, all_causes(count), min(len(all_causes(count)), 20))
                self.compare((count, some_of(chooser, all_arrows(count)), causes))

    def test_in_either_order(self):
        chooser = random.Random(422)
        drawings = all_drawings(3) + [some_drawing(chooser, chooser.choice([3, 4, 5, 6])) for _ in range(300)]
        for drawing in drawings:
            for one in range(drawing[0]):
                for other in range(one + 1, drawing[0]):
                    there = hidden(hidden(drawing, other), one)
                    self.assertEqual(hidden(hidden(drawing, one), other - 1), there)

    def test_in_any_order(self):
        chooser = random.Random(423)
        for _ in range(60):
            drawing = some_drawing(chooser, chooser.choice([5, 6]))
            gone = some_of(chooser, range(drawing[0]), 3)
            told = set()
            for order in permutations(gone):
                there, numbers = drawing, list(range(drawing[0]))
                for thing in order:
                    there = hidden(there, numbers.index(thing))
                    numbers.remove(thing)
                told.add(there)
            self.assertEqual(len(told), 1)

    def test_arrows_through_the_thing(self):
        drawing = (5, ((0, 2), (1, 2), (2, 3), (2, 4)), ())
        self.assertEqual(hidden(drawing, 2), (4, ((0, 2), (0, 3), (1, 2), (1, 3)), ((2, 3),)))
        # What is there already is there once.
        drawing = (3, ((0, 1), (0, 2), (1, 2)), ())
        self.assertEqual(hidden(drawing, 1), (2, ((0, 1),), ()))

    def test_causes(self):
        # Without the thing as it was; with it, its children in its place; those of fewer than two left out.
        drawing = (5, ((1, 3), (1, 4)), ((0, 1), (0, 2), (1, 2), (1, 3)))
        self.assertEqual(hidden(drawing, 1), (4, (), ((0, 1), (0, 2, 3), (1, 2, 3), (2, 3))))
        self.assertEqual(hidden((3, (), ((0, 1), (1, 2))), 1), (2, (), ()))
        self.assertEqual(hidden((3, (), ((0, 1, 2), (1, 2))), 1), (2, (), ((0, 1),)))
        self.assertEqual(hidden((3, ((0, 1),), ((0, 1),)), 0), (2, (), ()))
        # Alike ones are one.
        self.assertEqual(hidden((4, ((1, 2), (1, 3)), ((0, 1), (0, 2, 3), (2, 3))), 1), (3, (), ((0, 1, 2), (1, 2))))
        self.assertEqual(hidden((3, ((1, 2),), ((0, 1), (0, 1, 2), (0, 2))), 1), (2, (), ((0, 1),)))

    def test_examples(self):
        self.assertEqual(hidden(drawing=EXAMPLE, thing=1), (2, ((0, 1),), ((0, 1),)))
        self.assertEqual(hidden((3, ((0, 1), (1, 2)), ((0, 1), (1, 2))), 1), (2, ((0, 1),), ((0, 1),)))

    def test_many_causes(self):
        arrows = ((0, 8), (0, 9))
        pairs = [cause for cause in all_causes(8) if len(cause) == 2 and 0 not in cause]
        self.assertEqual(len(pairs), 21)
        # 19 causes and the new one are just 20; one more is too much.
        told = hidden((10, arrows, tuple(pairs[:19])), 0)
        self.assertEqual(len(told[2]), 20)
        assert_refused(self, TooGreat, {"most": 20}, hidden, (10, arrows, tuple(pairs[:20])), 0)
        # There are 20, but the new one is there already; or one is left out; or two become alike.
        self.assertEqual(len(hidden((10, arrows, tuple(sorted(pairs[:19] + [(8, 9)]))), 0)[2]), 20)
        self.assertEqual(len(hidden((10, (), tuple(sorted(pairs[:19] + [(0, 9)]))), 0)[2]), 19)
        self.assertEqual(len(hidden((10, arrows[:1], tuple(pairs[:20])), 0)[2]), 20)
        alike = tuple(sorted(pairs[:18] + [(0, 1), (1, 8, 9)]))
        self.assertEqual(len(hidden((10, arrows, alike), 0)[2]), 20)
        self.compare((10, arrows, tuple(pairs[:20])))
        self.compare((10, arrows, alike))

    def test_a_drawing_of_one_thing(self):
        for thing in [0, 1, -1, 9] + NO_INTEGERS:
            assert_refused(self, BadParameter, {"value": thing}, hidden, (1, (), ()), thing)

    def test_what_is_no_thing(self):
        for thing in NO_INTEGERS + [-1, 3, 10, 10 ** 5000]:
            assert_refused(self, BadParameter, {"value": thing}, hidden, EXAMPLE, thing)

    def test_order(self):
        assert_first_told(self, hidden, {"drawing": EXAMPLE, "thing": 1},
                          {"drawing": BAD_DRAWING, "thing": bad_parameter(3)})
        for drawing in NO_TUPLES + [()]:
            assert_refused(self, BadDrawing, {"place": ()}, hidden, drawing, 0)


class ShownTest(unittest.TestCase):

    def test_all_lots_of_five_things(self):
        for thing in range(5):
            others = [other for other in range(5) if other != thing]
            for lot in lots(5):
                if thing in lot:
                    assert_refused(self, BadLot, {"value": lot}, shown, thing, lot)
                else:
                    told = shown(thing, lot)
                    self.assertEqual(told, tuple(others.index(other) for other in lot))
                    assert_plain(self, told)

    def test_ten_things(self):
        chooser = random.Random(424)
        for _ in range(100):
            thing = chooser.randrange(10)
            lot = some_of(chooser, [other for other in range(10) if other != thing])
            self.assertEqual(shown(thing, lot), tuple(other if other < thing else other - 1 for other in lot))
        self.assertEqual(shown(thing=0, lot=tuple(range(1, 10))), tuple(range(9)))
        self.assertEqual(shown(9, ()), ())

    def test_what_is_no_thing(self):
        for thing in NO_INTEGERS + [-1, 10, 10 ** 5000]:
            assert_refused(self, BadParameter, {"value": thing}, shown, thing, (0, 1))
        for thing in (0, 9):
            self.assertEqual(shown(thing, ()), ())

    def test_what_is_no_lot(self):
        for lot in NO_TUPLES + [(10,), (-1,), (1, 0), (0, 0), (True,), (0.0,), ("0",), (HOSTILE,), [0], ((0,),), (5,),
                                (1, 5), (4, 5, 6), (0, 10 ** 5000), tuple(range(1000))]:
            assert_refused(self, BadLot, {"value": lot}, shown, 5, lot)

    def test_order(self):
        assert_first_told(self, shown, {"thing": 1, "lot": (0, 2)},
                          {"thing": bad_parameter(10), "lot": bad_lot((1, 1))})


if __name__ == "__main__":
    unittest.main()
