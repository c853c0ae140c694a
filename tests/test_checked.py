"""[2], [10]: drawings, lots and things are checked; which place or value is told."""

import unittest

from deedseen import drawings
from deedseen.errors import BadDrawing, BadLot, BadParameter
from tests.helping import (BAD_DRAWING, EXAMPLE, HOSTILE, NO_INTEGERS, NO_TUPLES, OTHER_KINDS, all_arrows, all_causes,
                           all_drawings, assert_first_told, assert_refused, bad_lot, bad_parameter, lots)

NO_ARROWS = [(), (0,), (0, 1, 2), (1, 0), (0, 0), (1, 1), (0, 3), (-1, 1), (3, 4), [0, 1], (True, 2), (0, True),
             (False, 1), (0.0, 1), ("0", 1), (0, HOSTILE), (None, None), ((0, 1), 2), ((0, 1),), (0, 10 ** 5000)]
NO_CAUSES = [(), (0,), (2,), (1, 0), (0, 0), (0, 1, 1), (0, 2, 1), (0, 3), (-1, 0), [0, 1], {0, 1}, (True, 2),
             (0, True), (False, 1), (0.0, 1), (0, "1"), (0, HOSTILE), (None, None), ((0, 1), (1, 2)), (0, 1, 2, 3)]
NO_LOTS = [(1, 0), (0, 0), (0, 1, 1), (3,), (-1,), (0, 3), (True,), (False,), (0, True), (0.0,), ("0",), (None,),
           (HOSTILE,), ((0,),), (0, 1, 2, 3), (10 ** 5000,), tuple(range(2000))]
NO_THINGS = NO_INTEGERS + [-1, 3, 10, 10 ** 5000, -10 ** 5000]


class NeedDrawingTest(unittest.TestCase):

    def refused(self, drawing, place):
        assert_refused(self, BadDrawing, {"place": place}, drawings.need_drawing, drawing)

    def test_returns_what_it_checks(self):
        for count in (1, 2, 3):
            for drawing in all_drawings(count):
                self.assertIs(drawings.need_drawing(drawing), drawing)

    def test_edges_that_are_let(self):
        every = tuple(range(10))
        twenty = tuple(sorted(lot for lot in lots(10) if len(lot) > 8))[:10] + all_causes(4)[:10]
        twenty = tuple(sorted(set(twenty)))
        self.assertEqual(len(twenty), 20)
        for drawing in [(1, (), ()), (10, all_arrows(10), ()), (10, (), (every,)), (10, all_arrows(10), twenty),
                        (2, ((0, 1),), ((0, 1),)), (10, ((8, 9),), ((8, 9),))]:
            self.assertIs(drawings.need_drawing(drawing=drawing), drawing)
        self.assertEqual(len(all_arrows(10)), 45)

    def test_no_tuple_of_three(self):
        for drawing in NO_TUPLES + [(), (3,), (3, ()), (3, (), (), ()), [3, (), ()], ((3, (), ()),)]:
            self.refused(drawing, ())

    def test_count(self):
        for count in NO_INTEGERS + [0, -1, 11, 10 ** 5000]:
            self.refused((count, (), ()), (0,))

    def test_arrows(self):
        for arrows in NO_TUPLES:
            self.refused((3, arrows, ()), (1,))
        for arrow in NO_ARROWS + NO_TUPLES:
            self.refused((3, (arrow,), ()), (1, 0))
            self.refused((3, ((0, 1), arrow), ()), (1, 1))
            self.refused((3, (arrow, (0, 1)), ()), (1, 0))

    def test_arrows_out_of_order_or_twice(self):
        self.refused((3, ((0, 1), (0, 1)), ()), (1, 1))
        self.refused((3, ((0, 2), (0, 1)), ()), (1, 1))
        self.refused((3, ((1, 2), (0, 1)), ()), (1, 1))
        self.refused((3, ((0, 1), (1, 2), (0, 2)), ()), (1, 2))
        self.refused((4, ((0, 1), (1, 2), (1, 2), (0, 3)), ()), (1, 2))

    def test_arrows_of_one_thing(self):
        for arrow in [(0, 1), (0, 0), ()]:
            self.refused((1, (arrow,), ()), (1, 0))

    def test_causes(self):
        for causes in NO_TUPLES:
            self.refused((3, (), causes), (2,))
        for cause in NO_CAUSES + NO_TUPLES:
            self.refused((3, (), (cause,)), (2, 0))
            self.refused((3, (), ((0, 1), cause)), (2, 1))
            self.refused((3, (), (cause, (0, 1))), (2, 0))

    def test_causes_out_of_order_or_twice(self):
        self.refused((3, (), ((0, 1), (0, 1))), (2, 1))
        self.refused((3, (), ((0, 2), (0, 1, 2))), (2, 1))
        self.refused((3, (), ((0, 1, 2), (0, 1))), (2, 1))
        self.refused((3, (), ((0, 1), (1, 2), (0, 2))), (2, 2))

    def test_twenty_causes_are_let_one_more_not(self):
        many = all_causes(5)
        self.assertEqual(len(many), 26)
        drawings.need_drawing((5, (), many[:20]))
        self.refused((5, (), many[:21]), (2,))
        # More than 20 are told ahead of what each of them is.
        self.refused((5, (), ((HOSTILE,),) + many[:20]), (2,))
        self.refused((5, (), (None,) * 21), (2,))

    def test_the_first_of_two_wrong_things(self):
        self.refused((0, None, None), (0,))
        self.refused((3, None, None), (1,))
        self.refused((3, (None,), None), (1, 0))
        self.refused((3, ((0, 1), None, None), (None,)), (1, 1))
        self.refused((3, ((0, 1),), ((0, 1), (0, 1), None)), (2, 1))
        self.refused((True, ((0, 1), (0, 1)), None), (0,))
        self.refused((2, ((0, 2),), ((0, 2),)), (1, 0))

    def test_values_that_fail_when_asked(self):
        self.refused(HOSTILE, ())
        self.refused((HOSTILE, HOSTILE, HOSTILE), (0,))
        self.refused((3, HOSTILE, HOSTILE), (1,))
        self.refused((3, (), HOSTILE), (2,))


class NeedLotTest(unittest.TestCase):

    def test_returns_what_it_checks(self):
        for count in (1, 2, 3, 10):
            for lot in lots(count):
                self.assertIs(drawings.need_lot((count, (), ()), lot), lot)

    def test_no_lot(self):
        for value in NO_LOTS + NO_TUPLES:
            assert_refused(self, BadLot, {"value": value}, drawings.need_lot, EXAMPLE, value)
        assert_refused(self, BadLot, {"value": (0, 1)}, drawings.need_lot, (1, (), ()), (0, 1))

    def test_order(self):
        assert_first_told(self, drawings.need_lot, {"drawing": EXAMPLE, "value": (0, 2)},
                          {"drawing": BAD_DRAWING, "value": bad_lot((3,))})


class ParametersTest(unittest.TestCase):
    """Every parameter of every function of drawings, wrong in each way, alone and with others."""

    RIGHT = {
        "need_lot": {"drawing": EXAMPLE, "value": (0, 2)},
        "parents_of": {"drawing": EXAMPLE, "lot": (0, 1), "thing": 1},
        "children_of": {"drawing": EXAMPLE, "lot": (0, 1), "thing": 1},
        "causes_of": {"drawing": EXAMPLE, "thing": 1},
        "linked": {"drawing": EXAMPLE, "one": 0, "other": 1},
        "leading": {"drawing": EXAMPLE, "lot": (0, 1), "goal": (1,)},
        "rooms": {"drawing": EXAMPLE, "lot": (0, 1)},
        "closed_up": {"drawing": EXAMPLE, "lot": (0, 1), "some": (1,)},
        "goal_of": {"drawing": EXAMPLE, "shut": (0, 1), "ends": (2,)},
    }
    LOTS = ("lot", "value", "goal", "some", "shut", "ends")

    def wrong(self, name):
        if name == "drawing":
            return BAD_DRAWING
        return bad_lot([0]) if name in self.LOTS else bad_parameter(True)

    def test_first_wrong_one_is_told(self):
        for function, right in self.RIGHT.items():
            assert_first_told(self, getattr(drawings, function), right, {name: self.wrong(name) for name in right})

    def test_each_wrong_value(self):
        for function, right in self.RIGHT.items():
            for name in right:
                if name == "drawing":
                    continue
                values, kind = (NO_LOTS + NO_TUPLES, BadLot) if name in self.LOTS else (NO_THINGS, BadParameter)
                for value in values:
                    assert_refused(self, kind, {"value": value}, getattr(drawings, function), **{**right, name: value})

    def test_each_wrong_drawing(self):
        for function, right in self.RIGHT.items():
            for drawing, place in [(None, ()), ([3, (), ()], ()), ((0, (), ()), (0,)), ((3, [], ()), (1,)),
                                   ((3, ((1, 0),), ()), (1, 0)), ((3, (), []), (2,)), ((3, (), ((0,),)), (2, 0))]:
                assert_refused(self, BadDrawing, {"place": place}, getattr(drawings, function),
                               **{**right, "drawing": drawing})

    def test_lots_that_are_to_lie_in_a_lot(self):
        for function, name in (("leading", "goal"), ("closed_up", "some")):
            for value in [(2,), (0, 2), (0, 1, 2)]:
                assert_refused(self, BadLot, {"value": value}, getattr(drawings, function), EXAMPLE, (0, 1), value)
            # Both wrong: the lot is told.
            assert_refused(self, BadLot, {"value": (0, 3)}, getattr(drawings, function), EXAMPLE, (0, 3), (2,))
            assert_refused(self, BadLot, {"value": (0,)}, getattr(drawings, function), EXAMPLE, (), **{name: (0,)})

    def test_ends_that_are_shut(self):
        for shut, ends in [((0, 1), (1,)), ((0,), (0, 2)), ((0, 1, 2), (2,))]:
            assert_refused(self, BadLot, {"value": ends}, drawings.goal_of, EXAMPLE, shut, ends)
        assert_refused(self, BadLot, {"value": (1, 0)}, drawings.goal_of, EXAMPLE, (1, 0), (1,))

    def test_one_thing_with_itself(self):
        for thing in (0, 1, 2):
            assert_refused(self, BadParameter, {"value": thing}, drawings.linked, EXAMPLE, thing, thing)
        assert_refused(self, BadParameter, {"value": 3}, drawings.linked, EXAMPLE, 3, 3)

    def test_true_is_not_the_thing_one(self):
        found = []
        for kind in OTHER_KINDS:
            try:
                drawings.causes_of(EXAMPLE, kind)
            except BadParameter as error:
                found.append(error.value is kind)
        self.assertEqual(found, [True] * len(OTHER_KINDS))


if __name__ == "__main__":
    unittest.main()
