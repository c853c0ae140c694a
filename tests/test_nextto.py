"""[11]: parents, children, causes, links."""

import random
import unittest

from deedseen.drawings import causes_of, children_of, linked, parents_of
from tests.helping import EXAMPLE, all_arrows, all_drawings, assert_plain, lots, some_drawing, some_of


class NextToTest(unittest.TestCase):

    def compare(self, drawing, some_lots):
        count, arrows, causes = drawing
        for thing in range(count):
            for lot in some_lots:
                parents = parents_of(drawing, lot, thing)
                children = children_of(drawing, lot, thing)
                self.assertEqual(parents, tuple(i for i in lot if (i, thing) in arrows))
                self.assertEqual(children, tuple(i for i in lot if (thing, i) in arrows))
                assert_plain(self, (parents, children))
            numbers = tuple(at for at in range(len(causes)) if thing in causes[at])
            self.assertEqual(causes_of(drawing, thing), numbers)
            assert_plain(self, causes_of(drawing, thing))
            for other in range(count):
                if other != thing:
                    both = any({thing, other} <= set(cause) for cause in causes)
                    self.assertIs(linked(drawing, thing, other), both)

    def test_all_small_drawings(self):
        for count in (1, 2, 3):
            for drawing in all_drawings(count):
                self.compare(drawing, lots(count))

    def test_drawings_of_up_to_ten_things(self):
        chooser = random.Random(11)
        for count in range(1, 11):
            for _ in range(12):
                drawing = some_drawing(chooser, count)
                self.compare(drawing, [(), tuple(range(count))] + [some_of(chooser, range(count)) for _ in range(3)])

    def test_one_thing(self):
        self.assertEqual(parents_of((1, (), ()), (0,), 0), ())
        self.assertEqual(children_of((1, (), ()), (0,), 0), ())
        self.assertEqual(causes_of((1, (), ()), 0), ())

    def test_the_thing_itself_in_the_lot_and_not(self):
        self.assertEqual(parents_of(EXAMPLE, (0, 1, 2), 1), (0,))
        self.assertEqual(parents_of(EXAMPLE, (0, 2), 1), (0,))
        self.assertEqual(parents_of(EXAMPLE, (1, 2), 1), ())
        self.assertEqual(children_of(EXAMPLE, (0, 1, 2), 1), (2,))
        self.assertEqual(children_of(EXAMPLE, (0, 2), 1), (2,))
        self.assertEqual(children_of(EXAMPLE, (0, 1), 1), ())

    def test_ten_things_with_all_arrows_and_a_cause_of_all(self):
        drawing = (10, all_arrows(10), (tuple(range(10)), (8, 9)))
        every = tuple(range(10))
        for thing in every:
            self.assertEqual(parents_of(drawing, every, thing), every[:thing])
            self.assertEqual(children_of(drawing, every, thing), every[thing + 1:])
            self.assertEqual(causes_of(drawing, thing), (0, 1) if thing > 7 else (0,))
            for other in every:
                if other != thing:
                    self.assertIs(linked(drawing, thing, other), True)

    def test_links_either_way_round(self):
        drawing = (4, (), ((0, 1, 3), (1, 2)))
        pairs = {(0, 1): True, (0, 2): False, (0, 3): True, (1, 2): True, (1, 3): True, (2, 3): False}
        for (one, other), told in pairs.items():
            self.assertIs(linked(drawing, one, other), told)
            self.assertIs(linked(drawing, other, one), told)
            self.assertIs(linked(drawing=drawing, one=one, other=other), told)

    def test_an_arrow_is_no_link(self):
        self.assertIs(linked((2, ((0, 1),), ()), 0, 1), False)


if __name__ == "__main__":
    unittest.main()
