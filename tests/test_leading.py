"""[2], [12]: what leads where, rooms, what is closed up, GOAL of what is shut and ends."""

import random
import unittest

from deedseen.drawings import closed_up, goal_of, leading, rooms
from tests.helping import (all_arrows, all_causes, all_drawings, assert_plain, lots, some_drawing, some_of, subsets)


def plain_leading(drawing, lot, goal):
    """Follow arrows from each thing by itself, one arrow after the other."""
    def leads(thing):
        if thing in goal:
            return True
        return any(start == thing and end in lot and leads(end) for start, end in drawing[1])
    return tuple(thing for thing in lot if leads(thing))


def plain_rooms(drawing, lot):
    """Spread from each thing over links until nothing comes."""
    found = set()
    for thing in lot:
        room = {thing}
        while True:
            more = {other for cause in drawing[2] if room & set(cause) for other in cause if other in lot}
            if more <= room:
                break
            room |= more
        found.add(tuple(sorted(room)))
    return tuple(sorted(found))


def plain_closed(drawing, lot, some):
    return all(not (end in some and start in lot and start not in some) for start, end in drawing[1])


def plain_goal(drawing, shut, ends):
    return plain_leading(drawing, [thing for thing in range(drawing[0]) if thing not in shut], ends)


class LeadingTest(unittest.TestCase):

    def compare(self, drawing, lot, goal):
        led = leading(drawing, lot, goal)
        self.assertEqual(led, plain_leading(drawing, lot, goal))
        self.assertIs(closed_up(drawing, lot, goal), plain_closed(drawing, lot, goal))
        # It is closed up, and what leads to it is itself.
        self.assertIs(closed_up(drawing, lot, led), True)
        self.assertEqual(leading(drawing, lot, led), led)
        assert_plain(self, led)

    def compare_all(self, drawing):
        count = drawing[0]
        for lot in lots(count):
            self.assertEqual(rooms(drawing, lot), plain_rooms(drawing, lot))
            outside = [thing for thing in range(count) if thing not in lot]
            for ends in subsets(outside):
                self.assertEqual(goal_of(drawing, lot, ends), plain_goal(drawing, lot, ends))
            for goal in subsets(lot):
                self.compare(drawing, lot, goal)

    def test_all_lots_and_goals_of_all_small_drawings(self):
        for count in (1, 2, 3):
            for drawing in all_drawings(count):
                self.compare_all(drawing)

    def test_all_arrows_of_four_things(self):
        for arrows in subsets(all_arrows(4)):
            self.compare_all((4, arrows, ((0, 3), (1, 2))))

    def test_all_causes_of_four_things(self):
        for causes in subsets(all_causes(4)):
            drawing = (4, (), causes)
            for lot in lots(4):
                self.assertEqual(rooms(drawing, lot), plain_rooms(drawing, lot))

    def test_some_lots_of_drawings_of_ten_things(self):
        chooser = random.Random(12)
        for _ in range(150):
            drawing = some_drawing(chooser, 10)
            lot = some_of(chooser, range(10))
            self.compare(drawing, lot, some_of(chooser, lot))
            self.assertEqual(rooms(drawing, lot), plain_rooms(drawing, lot))
            outside = [thing for thing in range(10) if thing not in lot]
            ends = some_of(chooser, outside)
            self.assertEqual(goal_of(drawing, lot, ends), plain_goal(drawing, lot, ends))

    def test_ten_things_in_a_row(self):
        arrows = tuple((thing, thing + 1) for thing in range(9))
        drawing = (10, arrows, arrows)
        every = tuple(range(10))
        self.assertEqual(leading(drawing, every, (9,)), every)
        self.assertEqual(rooms(drawing, every), (every,))
        without = (0, 1, 2, 3, 5, 6, 7, 8, 9)
        self.assertEqual(leading(drawing, without, (9,)), (5, 6, 7, 8, 9))
        self.assertEqual(rooms(drawing, without), ((0, 1, 2, 3), (5, 6, 7, 8, 9)))
        self.assertEqual(goal_of(drawing, (4,), (9,)), (5, 6, 7, 8, 9))
        self.assertIs(closed_up(drawing, every, (0, 1)), True)
        self.assertIs(closed_up(drawing, every, (0, 2)), False)
        self.assertIs(closed_up(drawing, (0, 2, 3), (2, 3)), True)

    def test_nothing(self):
        drawing = (3, ((0, 1),), ((0, 1),))
        self.assertEqual(leading(drawing, (), ()), ())
        self.assertEqual(leading(drawing, (0, 1), ()), ())
        self.assertEqual(rooms(drawing, ()), ())
        self.assertIs(closed_up(drawing, (0, 1), ()), True)
        self.assertEqual(goal_of(drawing, (), ()), ())
        self.assertEqual(goal_of(drawing, (0, 1, 2), ()), ())

    def test_example(self):
        drawing = (4, ((0, 1), (1, 3), (2, 3)), ((0, 2), (1, 2)))
        self.assertEqual(rooms(drawing, (0, 1, 2, 3)), ((0, 1, 2), (3,)))
        self.assertEqual(rooms(drawing, (0, 1, 3)), ((0,), (1,), (3,)))
        self.assertEqual(leading(drawing, (0, 2, 3), (3,)), (2, 3))
        self.assertEqual(leading(drawing, (0, 1, 2, 3), (3,)), (0, 1, 2, 3))
        self.assertEqual(goal_of(drawing, (1,), (3,)), (2, 3))

    def test_parameters_by_name(self):
        drawing = (3, ((0, 1),), ((0, 1),))
        self.assertEqual(leading(drawing=drawing, lot=(0, 1), goal=(1,)), (0, 1))
        self.assertEqual(rooms(drawing=drawing, lot=(0, 1)), ((0, 1),))
        self.assertIs(closed_up(drawing=drawing, lot=(0, 1), some=(1,)), False)
        self.assertEqual(goal_of(drawing=drawing, shut=(2,), ends=(1,)), (0, 1))


class FactsTest(unittest.TestCase):

    def test_rooms_part_the_lot(self):
        for drawing in all_drawings(3):
            for lot in lots(3):
                parts = rooms(drawing, lot)
                self.assertEqual(sorted(thing for part in parts for thing in part), list(lot))
                assert_plain(self, parts)

    def test_one_room_in_a_greater_lot(self):
        for drawing in all_drawings(3):
            for great in lots(3):
                for lot in subsets(great):
                    for room in rooms(drawing, lot):
                        self.assertTrue(any(set(room) <= set(other) for other in rooms(drawing, great)))

    def test_leading_is_the_least_closed_lot(self):
        for arrows in subsets(all_arrows(4)):
            drawing = (4, arrows, ())
            for lot in lots(4):
                closed = [some for some in subsets(lot) if closed_up(drawing, lot, some)]
                for goal in subsets(lot):
                    least = set(lot).intersection(*[some for some in closed if set(goal) <= set(some)])
                    self.assertEqual(set(leading(drawing, lot, goal)), least)

    def test_with_less_nothing_more(self):
        for drawing in all_drawings(3):
            count, arrows, causes = drawing
            fewer = [(count, arrows[:at] + arrows[at + 1:], causes) for at in range(len(arrows))]
            fewer += [(count, arrows, causes[:at] + causes[at + 1:]) for at in range(len(causes))]
            for less in fewer:
                for lot in lots(3):
                    whole = rooms(drawing, lot)
                    for room in rooms(less, lot):
                        self.assertTrue(any(set(room) <= set(other) for other in whole))
                    for goal in subsets(lot):
                        self.assertLessEqual(set(leading(less, lot, goal)), set(leading(drawing, lot, goal)))


if __name__ == "__main__":
    unittest.main()
