"""[3], [17]: worlds are checked; which place is told."""

import random
import unittest

from deedseen import worlds
from deedseen.errors import BadDrawing, BadLot, BadParameter, BadWorld, TooGreat
from tests.helping import (BAD_DRAWING, HOSTILE, NO_INTEGERS, NO_TUPLES, all_drawings, assert_first_told,
                           assert_refused, bad_lot, bad_parameter, some_drawing, some_world)

# 0 and 1 move 2; a cause of 0 and 2, with three values; a cause of all, with one.
DRAWING = (3, ((0, 2), (1, 2)), ((0, 1, 2), (0, 2)))
SIZES = (2, 1, 2)
HIDDEN = ((7,), (1, 0, 2))
TABLES = (((1, 0), (0, 1), (1, 1)), ((5,),), ((1, 2), (2, 1), (1, 1), (3, 4), (0, 5), (5, 0)))
WORLD = (SIZES, HIDDEN, TABLES)

NO_WEIGHTS = NO_TUPLES + [(0, 0), (-1, 1), (1, -1), (10 ** 6 + 1, 1), (1, 10 ** 6 + 1), (True, 1), (1, True), (1.0, 1),
                          ("1", 1), (None, 1), (HOSTILE, 1), ((1,), 1), [1, 1], (10 ** 5000, 1)]


class NeedWorldTest(unittest.TestCase):

    def refused(self, world, place, drawing=DRAWING):
        assert_refused(self, BadWorld, {"place": place}, worlds.need_world, drawing, world)

    def test_returns_what_it_checks(self):
        self.assertIs(worlds.need_world(DRAWING, WORLD), WORLD)
        self.assertIs(worlds.need_world(drawing=DRAWING, world=WORLD), WORLD)
        chooser = random.Random(17)
        for count in (1, 2, 3):
            for drawing in all_drawings(count):
                world = some_world(chooser, drawing)
                self.assertIs(worlds.need_world(drawing, world), world)
        for _ in range(40):
            drawing = some_drawing(chooser, chooser.randint(4, 7))
            world = some_world(chooser, drawing, hidden=(1,) * len(drawing[2]))
            self.assertIs(worlds.need_world(drawing, world), world)

    def test_no_tuple_of_three(self):
        for world in NO_TUPLES + [(), WORLD[:2], WORLD + ((),), list(WORLD)]:
            self.refused(world, ())

    def test_sizes(self):
        for sizes in NO_TUPLES + [(), (2, 1), (2, 1, 2, 1), [2, 1, 2]]:
            self.refused((sizes, HIDDEN, TABLES), (0,))
        for size in NO_INTEGERS + [0, -1, 65, 10 ** 5000]:
            for at in range(3):
                self.refused((SIZES[:at] + (size,) + SIZES[at + 1:], HIDDEN, TABLES), (0,))

    def test_hidden(self):
        for hidden in NO_TUPLES + [(), ((7,),), HIDDEN + ((1,),), list(HIDDEN)]:
            self.refused((SIZES, hidden, TABLES), (1,))
        for weights in NO_WEIGHTS + [(), (0,), (True,), (1,) * 65]:
            self.refused((SIZES, (weights, HIDDEN[1]), TABLES), (1, 0))
            self.refused((SIZES, (HIDDEN[0], weights), TABLES), (1, 1))
            self.refused((SIZES, (weights, weights), TABLES), (1, 0))

    def test_tables(self):
        for tables in NO_TUPLES + [(), TABLES[:2], TABLES + (((1,),),), list(TABLES)]:
            self.refused((SIZES, HIDDEN, tables), (2,))
        for at in range(3):
            for table in NO_TUPLES + [(), TABLES[at][:-1], TABLES[at] + TABLES[at][:1], list(TABLES[at])]:
                self.refused((SIZES, HIDDEN, TABLES[:at] + (table,) + TABLES[at + 1:]), (2, at))

    def test_rows_of_tables(self):
        for at in range(3):
            for row in range(len(TABLES[at])):
                for weights in NO_WEIGHTS + [(), (0,), (True,), (1, 1, 1), (0, 0, 1)]:
                    table = TABLES[at][:row] + (weights,) + TABLES[at][row + 1:]
                    self.refused((SIZES, HIDDEN, TABLES[:at] + (table,) + TABLES[at + 1:]), (2, at, row))

    def test_as_many_weights_as_values(self):
        self.refused((SIZES, HIDDEN, (TABLES[0], ((5, 5),), TABLES[2])), (2, 1, 0))
        self.refused(((2, 2, 2), HIDDEN, TABLES), (2, 1, 0))
        self.refused(((2, 1, 3), HIDDEN, TABLES), (2, 2, 0))

    def test_as_many_rows_as_of_parents_and_causes(self):
        # A thing's own size, and those of what is neither parent nor cause, count for nothing.
        drawing = (3, ((0, 1),), ((0, 2), (1, 2)))
        one, two = (1, 1, 1), (1, 1)
        tables = ((two,) * 4, (one,) * 2 * 3, ((1,),) * 4 * 3)
        world = ((2, 3, 1), ((1, 1, 1, 1), (2, 2, 2)), tables)
        self.assertIs(worlds.need_world(drawing, world), world)
        for at, many in enumerate((4, 6, 12)):
            for wrong in (many - 1, many + 1):
                table = tables[at][:1] * wrong
                self.refused(world[:2] + (tables[:at] + (table,) + tables[at + 1:],), (2, at), drawing)

    def test_the_first_of_two_spoilt_parts(self):
        self.refused((None, None, None), (0,))
        self.refused((SIZES, None, None), (1,))
        self.refused((SIZES, (None, None), None), (1, 0))
        self.refused((SIZES, HIDDEN, None), (2,))
        self.refused((SIZES, HIDDEN, (None, None, None)), (2, 0))
        # All of a table comes ahead of the next one.
        spoilt = (TABLES[0][:2] + ((0, 0),), None, TABLES[2])
        self.refused((SIZES, HIDDEN, spoilt), (2, 0, 2))
        self.refused((SIZES, HIDDEN, (TABLES[0], ((0,),), TABLES[2][:1])), (2, 1, 0))
        self.refused((SIZES, HIDDEN, (((0, 0), (0, 0)), ((0,),), TABLES[2])), (2, 0))

    def test_greatest_sizes_and_weights(self):
        for many in (63, 64):
            world = ((many,), (), (((10 ** 6,) * many,),))
            self.assertIs(worlds.need_world((1, (), ()), world), world)
            drawing = (2, (), ((0, 1),))
            world = ((1, 1), ((10 ** 6,) * many,), (((1,),) * many, ((10 ** 6,),) * many))
            self.assertIs(worlds.need_world(drawing, world), world)
        self.refused(((65,), (), (((1,) * 65,),)), (0,), (1, (), ()))
        self.refused(((1, 1), ((1,) * 65,), (((1,),) * 65, ((1,),) * 65)), (1, 0), (2, (), ((0, 1),)))

    def test_just_as_many_rows_as_are_let(self):
        drawing = (2, (), ((0, 1),))
        def world(one, other, many):
            return (one, other), ((1,) * many,), (((1,) * one,) * many, ((1,) * other,) * many)
        worlds.need_world(drawing, world(64, 64, 4))
        worlds.need_world(drawing, world(16, 16, 64))
        for sizes in [(64, 64, 5), (64, 5, 64), (5, 64, 64), (40, 10, 41), (64, 64, 64)]:
            assert_refused(self, TooGreat, {"most": 16384}, worlds.need_world, drawing, world(*sizes))

    def test_rows_of_all_things_and_causes_count(self):
        drawing = (10, (), ((0, 1),) + tuple((1, thing) for thing in range(2, 10)))
        def world(sizes, hidden):
            tables = []
            for thing in range(10):
                rows = 1
                for many, cause in zip(hidden, drawing[2]):
                    rows *= many if thing in cause else 1
                tables.append(((1,) * sizes[thing],) * rows)
            return sizes, tuple((1,) * many for many in hidden), tuple(tables)
        worlds.need_world(drawing, world((2,) * 10, (2, 2, 2, 2) + (1,) * 5))
        assert_refused(self, TooGreat, {"most": 16384}, worlds.need_world, drawing,
                       world((2,) * 10, (2, 2, 2, 2, 2) + (1,) * 4))

    def test_too_many_rows_are_told_ahead_of_tables_and_behind_hidden(self):
        drawing = (3, (), ((0, 1),))
        for tables in (None, (), (None, None, None)):
            assert_refused(self, TooGreat, {"most": 16384}, worlds.need_world, drawing, ((64,) * 3, ((1,),), tables))
        self.refused(((64,) * 3, ((0,),), ()), (1, 0), drawing)
        self.refused(((64,) * 3, (), ()), (1,), drawing)
        # 64 hidden values of each of 20 causes: a number of some forty figures.
        twenty = tuple((0,) + pair for pair in [(i, j) for i in range(1, 9) for j in range(i + 1, 9)][:20])
        assert_refused(self, TooGreat, {"most": 16384}, worlds.need_world, (9, (), twenty),
                       ((1,) * 9, ((1,) * 64,) * 20, None))

    def test_the_drawing_comes_first(self):
        assert_refused(self, BadDrawing, {"place": (0,)}, worlds.need_world, (0, (), ()), None)


class ParametersTest(unittest.TestCase):

    def test_order(self):
        bad_world = ((SIZES, HIDDEN, None), BadWorld, {"place": (2,)})
        wrong = {"drawing": BAD_DRAWING, "world": bad_world}
        right = {"drawing": DRAWING, "world": WORLD}
        assert_first_told(self, worlds.need_world, right, wrong)
        assert_first_told(self, worlds.factor, {**right, "lot": (0, 2)}, {**wrong, "lot": bad_lot((3,))})
        assert_first_told(self, worlds.set_chances, {**right, "deed": ((0, 1),)},
                          {**wrong, "deed": bad_parameter(((0, 2),))})
        assert_first_told(self, worlds.is_open, {**right, "tried": (0, 2)}, {**wrong, "tried": bad_lot([0])})

    def test_too_many_rows_come_ahead_of_what_follows(self):
        great = ((64, 64, 64), HIDDEN, TABLES)
        for function in (worlds.factor, worlds.set_chances, worlds.is_open):
            assert_refused(self, TooGreat, {"most": 16384}, function, DRAWING, great, None)

    def test_lots(self):
        for value in NO_TUPLES + [(3,), (1, 0), (0, 0), (True,), (HOSTILE,), [0]]:
            assert_refused(self, BadLot, {"value": value}, worlds.factor, DRAWING, WORLD, value)
            assert_refused(self, BadLot, {"value": value}, worlds.is_open, DRAWING, WORLD, value)

    def test_no_deeds(self):
        for deed in NO_TUPLES + [(0, 1), ((0,),), ((0, 1, 0),), ([0, 1],), ((0, 2),), ((1, 1),), ((0, -1),), ((3, 0),),
                                 ((-1, 0),), ((0, 0), (0, 1)), ((0, 0), (0, 0)), ((2, 0), (0, 0)), ((True, 0),),
                                 ((0, True),), ((0, False),), ((0.0, 0),), ((0, "0"),), ((0, None),), ((HOSTILE, 0),),
                                 ((0, HOSTILE),), [(0, 1)], ((0, 1), None), (HOSTILE,), ((0, 10 ** 5000),)]:
            assert_refused(self, BadParameter, {"value": deed}, worlds.set_chances, DRAWING, WORLD, deed)


if __name__ == "__main__":
    unittest.main()
