"""[19]: cut drawings."""

import random
import unittest

from deedseen.drawings import need_drawing
from deedseen.errors import BadLot
from deedseen.roads import cut_drawing
from tests.helping import (BAD_DRAWING, NO_TUPLES, all_arrows, all_drawings, assert_first_told, assert_plain,
                           assert_refused, bad_lot, lots, some_drawing, some_of)


def plain_cut(drawing, over, under):
    count, arrows, causes = drawing
    left = tuple(arrow for arrow in arrows if arrow[0] not in under and arrow[1] not in over)
    kept = {tuple(thing for thing in cause if thing not in over) for cause in causes}
    return count, left, tuple(sorted(cause for cause in kept if len(cause) >= 2))


class CutDrawingTest(unittest.TestCase):

    def compare(self, drawing, over, under):
        told = cut_drawing(drawing, over, under)
        self.assertEqual(told, plain_cut(drawing, over, under))
        self.assertIs(need_drawing(told), told)
        assert_plain(self, told)
        if not over and not under:
            self.assertEqual(told, drawing)

    def test_all_lots_of_small_drawings(self):
        for count in (1, 2, 3):
            for drawing in all_drawings(count):
                for over in lots(count):
                    for under in lots(count):
                        self.compare(drawing, over, under)

    def test_greater_drawings(self):
        chooser = random.Random(190)
        for count in range(4, 11):
            for _ in range(30):
                drawing = some_drawing(chooser, count)
                self.compare(drawing, some_of(chooser, range(count)), some_of(chooser, range(count)))
                self.compare(drawing, some_of(chooser, range(count), 1), ())
                self.compare(drawing, (), some_of(chooser, range(count), 1))

    def test_either_lot_both_and_none(self):
        drawing = (4, ((0, 1), (1, 2), (2, 3)), ((0, 1, 2), (0, 2), (1, 3)))
        self.assertEqual(cut_drawing(drawing, (), ()), drawing)
        self.assertEqual(cut_drawing(drawing, (1,), ()), (4, ((1, 2), (2, 3)), ((0, 2),)))
        self.assertEqual(cut_drawing(drawing, (), (1,)), (4, ((0, 1), (2, 3)), ((0, 1, 2), (0, 2), (1, 3))))
        self.assertEqual(cut_drawing(drawing=drawing, over=(2,), under=(2,)), (4, ((0, 1),), ((0, 1), (1, 3))))
        self.assertEqual(cut_drawing(drawing, (0, 1, 2, 3), ()), (4, (), ()))

    def test_causes_ascend_again(self):
        drawing = (4, (), ((0, 1, 3), (0, 2), (1, 2)))
        self.assertEqual(cut_drawing(drawing, (0,), ()), (4, (), ((1, 2), (1, 3))))

    def test_ten_things(self):
        every = tuple(range(10))
        drawing = (10, all_arrows(10), (every, every[1:]))
        self.assertEqual(cut_drawing(drawing, (0,), ()), (10, all_arrows(10), (every[1:],)))
        self.assertEqual(cut_drawing(drawing, every[:9], ()), (10, tuple((thing, 9) for thing in range(9)), ()))

    def test_refusals(self):
        drawing = (3, ((0, 1),), ())
        for value in NO_TUPLES + [(3,), (1, 0), (0, 0), (True,)]:
            assert_refused(self, BadLot, {"value": value}, cut_drawing, drawing, value, ())
            assert_refused(self, BadLot, {"value": value}, cut_drawing, drawing, (), value)
        assert_first_told(self, cut_drawing, {"drawing": drawing, "over": (0,), "under": (0, 1)},
                          {"drawing": BAD_DRAWING, "over": bad_lot((1, 0)), "under": bad_lot((3,))})


if __name__ == "__main__":
    unittest.main()
