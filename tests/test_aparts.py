"""[39]: worlds in which a rule does not hold, by plain sums."""

import random
import unittest

from deedseen.aparts import apart, is_apart
from deedseen.errors import NoRow, TooGreat
from deedseen.hanging import hanging
from deedseen.worlds import need_world
from tests.helping import (EXAMPLE, HOSTILE, NO_TUPLES, all_arrows, all_causes, assert_plain, assert_refused, some_of,
                           some_world)
from tests.plain import plain_factor, ranges, some_lots, some_question
from tests.plain_rules import (leads_down, less, lot_of, plain_least_road, plain_rule, rules_of, small_questions,
                               unlike_rows)
from tests.test_hanging import bent_worlds, many_rows, spoilt_worlds, way_lengths

SEEN_BOTH = (EXAMPLE, (), (), (0, 1), (2,))
UNDONE = (EXAMPLE, (), (0,), (), (2,))
PASSED_ON = ((3, ((0, 1),), ((0, 2),)), (), (0,), (1,), (2,))


def is_positive(drawing, world):
    return min(plain_factor(drawing, world, range(drawing[0]))) > 0


def plain_cut(drawing, over, under):
    count, arrows, causes = drawing
    return count, tuple(arrow for arrow in arrows if arrow[1] not in over and arrow[0] not in under), causes


def road_rows(drawing, over, under, ends):
    """Two to the number of the bits and coins of the least open road; None without one."""
    road = plain_least_road(drawing, over, under, *ends)
    if road is None:
        return None
    lengths = way_lengths(plain_cut(drawing, over, under), road, ends[2])
    return 2 ** (len(road[0]) + sum(type(kind) is int for kind in road[1]) + sum(lengths))


def told_rows(question, rule, thing):
    """How many rows the world has that the document tells of, by plain ways; None if there is none."""
    drawing, _, by_hand, seen, asked = question
    ends = thing, asked, less(lot_of(by_hand, seen), thing)
    if rule != "undo":
        return road_rows(drawing, by_hand, (thing,) if rule == "set" else (), ends)
    over = less(by_hand, thing)
    rows = road_rows(drawing, by_hand, (), ends)
    if rows is None and leads_down(drawing, over, thing, seen):
        rows = road_rows(drawing, over, (thing,), ends)
        if rows:
            reached = {thing}
            while not reached & set(seen):
                reached = {end for start, end in drawing[1] if start in reached and end not in over}
                rows *= 2
    return rows


class ApartTest(unittest.TestCase):

    def compare(self, question, rule, thing, most=256):
        """What is told, None where the two answers are always the same."""
        rows = told_rows(question, rule, thing)
        self.assertIs(rows is None, plain_rule(question, rule, thing)[0])
        if rows is None:
            assert_refused(self, NoRow, {}, apart, question, rule, thing)
            return None
        if rows > 16384:
            assert_refused(self, TooGreat, {"most": 16384}, apart, question, rule, thing)
            return None
        told = apart(question, rule, thing)
        assert_plain(self, told)
        world, row = told
        self.assertIs(need_world(question[0], world), world)
        self.assertIs(is_apart(question, rule, thing, told), True)
        # It is the world that comes of the road, as the document tells it: so TooGreat is where it ought to be.
        self.assertEqual(many_rows(world), rows)
        if rows <= most:
            self.assertTrue(is_positive(question[0], world))
            self.assertIn(row, unlike_rows(question, rule, thing, world))
        return told

    def test_all_small_questions(self):
        found = set()
        for question in small_questions():
            for rule, thing in rules_of(question):
                told = self.compare(question, rule, thing, 0 if question[1] else 256)
                found.add((rule, told is None))
        self.assertEqual(len(found), 6)

    def test_drawn_questions(self):
        chooser = random.Random(39)
        for count, many in ((4, 150), (5, 60)):
            for _ in range(many):
                question = some_question(chooser, count, 3)
                for rule, thing in rules_of(question):
                    self.compare(question, rule, thing, 64)

    def test_greater_questions(self):
        chooser = random.Random(391)
        for count, many in ((6, 25), (7, 12)):
            for _ in range(many):
                question = some_question(chooser, count, 3)
                for rule, thing in rules_of(question):
                    self.compare(question, rule, thing, 16)

    def test_undo_by_what_is_seen_below(self):
        found = 0
        chooser = random.Random(392)
        for _ in range(1500):
            count = chooser.choice([4, 5])
            arrows = tuple(arrow for arrow in all_arrows(count) if chooser.random() < 0.35)
            causes = some_of(chooser, [cause for cause in all_causes(count) if len(cause) == 2], 3)
            question = ((count, arrows, causes),) + some_lots(chooser, count)
            drawing, _, by_hand, seen, asked = question
            for thing in by_hand:
                known = less(lot_of(by_hand, seen), thing)
                # No way out of the thing tells, but one into it, seen from below, does.
                if plain_least_road(drawing, by_hand, (), thing, asked, known) is None:
                    found += self.compare(question, "undo", thing) is not None
        self.assertGreater(found, 20)

    def test_handed_down_over_many_things(self):
        arrows = ((0, 1), (1, 2), (2, 3), (3, 4))
        question = ((6, arrows, ((0, 5),)), (), (0,), (4,), (5,))
        world, _ = self.compare(question, "undo", 0)
        self.assertEqual(many_rows(world), 2 ** 7)
        # A shorter way there is taken; one into what is set is not.
        question = ((6, ((0, 1), (0, 3)) + arrows[1:], ((0, 5),)), (), (0,), (4,), (5,))
        self.assertEqual(many_rows(self.compare(question, "undo", 0)[0]), 2 ** 5)
        question = ((6, ((0, 1), (0, 3)) + arrows[1:], ((0, 5),)), (), (0, 3), (2, 4), (5,))
        self.assertEqual(many_rows(self.compare(question, "undo", 0)[0]), 2 ** 5)

    def test_meetings_and_what_is_handed_down(self):
        # From 0 back to 1 by a cause, which meets with 3's at what is seen.
        drawing = (5, ((0, 2),), ((0, 1), (1, 3), (3, 4)))
        for seen in [(1, 2, 3), (2, 3), (1, 2)]:
            self.compare((drawing, (), (0,), seen, (4,)), "undo", 0)
        drawing = (6, ((0, 2), (1, 2), (2, 5), (3, 5)), ((0, 1), (1, 3), (3, 4)))
        for seen in [(5,), (2, 5), (2, 3), (1, 5), (1, 3, 5)]:
            self.compare((drawing, (), (0,), seen, (4,)), "undo", 0)

    def test_ways_down_that_lead_through_the_thing_set(self):
        # From the meeting 0 the shortest way to what is seen leads through 2, the arrows out of which are cut.
        arrows = ((0, 1), (0, 3), (1, 2), (2, 6), (3, 4), (4, 5), (5, 8))
        question = ((9, arrows, ((0, 2), (0, 7))), (), (2,), (6, 8), (7,))
        world, _ = self.compare(question, "undo", 2)
        # The bits of 2, 0, 7, the coins of two causes, 0's way by 3, 4, 5 to 8, and that of 2 to 6.
        self.assertEqual(many_rows(world), 2 ** 10)

    def test_cut_arrows_and_causes_move_nothing(self):
        # The arrow from 0 to 2 is cut by "set", that into 1, and the cause of it, is always.
        question = ((4, ((0, 1), (0, 2), (0, 3)), ((0, 1), (0, 3), (1, 3))), (), (1,), (0, 2), (3,))
        for rule, thing in rules_of(question):
            self.compare(question, rule, thing)
        world, _ = apart(question, "set", 0)
        self.assertEqual(world[0], (2, 1, 1, 2))

    def test_long_roads(self):
        pairs = tuple((thing, thing + 1) for thing in range(9))
        every = tuple(range(10))
        for question, rule, rows in [
                # 8 things and 6 coins: just 2 ** 14 rows, and one coin more.
                (((8, ((6, 7),), pairs[:6]), (), (), every[:6], (7,)), "forget", 2 ** 14),
                (((8, ((6, 7),), pairs[:6]), (), (), every[:6], (7,)), "set", 2 ** 14),
                (((8, (), pairs[:7]), (), (), every[:7], (7,)), "forget", 2 ** 15),
                (((8, (), pairs[:7]), (), (), every[:7], (7,)), "set", 2 ** 15),
                (((10, pairs, ()), (), (), (0,), (9,)), "forget", 2 ** 10),
                (((10, pairs, ()), (), (0,), (), (9,)), "undo", 2 ** 10),
                (((10, (), pairs), (), (), every[:9], (9,)), "set", 2 ** 19)]:
            self.assertEqual(told_rows(question, rule, 0), rows)
            told = self.compare(question, rule, 0, 0)
            self.assertEqual(told is None, rows > 2 ** 14)
            if told:
                self.assertEqual(many_rows(told[0]), rows)

    def test_long_ways_down(self):
        # 0 hands its bit down to 4 or 5, bound by 0 and 6, 6 and 7, .. to what is asked.
        down = tuple((thing, thing + 1) for thing in range(5))
        for end, most, rows in [(4, 9, 2 ** 13), (5, 9, 2 ** 14)]:
            road = ((0, 6), (6, 7), (7, 8), (8, 9))
            drawing = (10, down[:end], road)
            question = (drawing, (), (0,), (end, 6, 7, 8), (most,))
            self.assertEqual(told_rows(question, "undo", 0), rows)
            self.assertEqual(many_rows(self.compare(question, "undo", 0, 0)[0]), rows)
        # One thing more to hand it down to.
        drawing = (10, tuple((thing, thing + 1) for thing in range(4)), ((0, 5), (5, 6), (6, 7), (7, 8), (8, 9)))
        question = (drawing, (), (0,), (4, 5, 6, 7, 8), (9,))
        self.assertEqual(told_rows(question, "undo", 0), 2 ** 15)
        assert_refused(self, TooGreat, {"most": 16384}, apart, question, "undo", 0)
        nearer = ((10, down[:3], drawing[2]), (), (0,), (3, 5, 6, 7, 8), (9,))
        self.assertEqual(many_rows(self.compare(nearer, "undo", 0, 0)[0]), 2 ** 14)

    def test_meetings_that_lead_far(self):
        # Both meetings lead down to 9, one arrow after the other.
        for far in (7, 8, 9):
            arrows = ((0, 2), (1, 2), (1, 4), (2, 5), (3, 4), (4, 5)) + tuple((at, at + 1) for at in range(5, far))
            question = ((10, arrows, ()), (), (), (0, far), (3,))
            self.compare(question, "forget", 0, 0)
        self.assertEqual(told_rows(((10, arrows, ()), (), (), (0, 9), (3,)), "forget", 0), 2 ** 15)
        self.assertEqual(told_rows(((10, arrows, ()), (), (), (0, 8), (3,)), "forget", 0), 2 ** 13)

    def test_the_beginning_on_a_way_down(self):
        # The meeting 1 leads to 4 through 3, at which the road begins.
        drawing = (5, ((0, 1), (1, 2), (2, 3), (3, 4)), ((1, 3),))
        for rule, thing in [("forget", 3), ("set", 3)]:
            self.compare((drawing, (), (), (3, 4), (0,)), rule, thing)

    def test_example(self):
        world, row = told = apart(question=SEEN_BOTH, rule="forget", thing=0)
        self.assertTrue(is_positive(EXAMPLE, world))
        self.assertIn(row, unlike_rows(SEEN_BOTH, "forget", 0, world))
        self.assertIs(is_apart(question=SEEN_BOTH, rule="forget", thing=0, value=told), True)
        assert_refused(self, NoRow, {}, apart, SEEN_BOTH, "set", 1)
        self.compare((EXAMPLE, (), (), (1,), (2,)), "set", 1)
        self.compare(UNDONE, "undo", 0)
        self.compare(PASSED_ON, "undo", 0)

    def test_what_is_wrong_comes_ahead(self):
        # There is no road; but the rule, the thing are looked at first.
        question = ((2, (), ()), (), (), (0,), (1,))
        assert_refused(self, NoRow, {}, apart, question, "forget", 0)
        self.assertIs(is_apart(question, "forget", 0, None), False)


class IsApartTest(unittest.TestCase):

    def compare(self, question, rule, thing, world):
        """All rows of a world: which are told, by plain sums."""
        let = unlike_rows(question, rule, thing, world) if is_positive(question[0], world) else []
        for row in ranges([world[0][one] for one in lot_of(*question[2:])]):
            self.assertIs(is_apart(question, rule, thing, (world, row)), row in let)
        return let

    def test_all_rows_of_told_worlds(self):
        chooser = random.Random(393)
        for at in range(120):
            question = some_question(chooser, chooser.choice([2, 3, 3, 4]), 3)
            for rule, thing in rules_of(question):
                if (told_rows(question, rule, thing) or 256) <= 128:
                    world, _ = apart(question, rule, thing)
                    self.assertTrue(self.compare(question, rule, thing, world))
                    if at % 4 == 0:
                        for bent in bent_worlds(chooser, question[0], world)[:6]:
                            need_world(question[0], bent)
                            self.compare(question, rule, thing, bent)

    def test_drawn_worlds(self):
        chooser = random.Random(394)
        found = set()
        for _ in range(200):
            question = some_question(chooser, chooser.choice([2, 3]), 2)
            least = chooser.choice([0, 1, 1])
            world = some_world(chooser, question[0], least=least)
            for rule, thing in rules_of(question):
                let = self.compare(question, rule, thing, world)
                found.add((rule, is_positive(question[0], world), bool(let)))
        self.assertEqual(found, {(rule, *told) for rule in ("forget", "set", "undo")
                                 for told in ((True, True), (True, False), (False, False))})

    def test_worlds_with_a_nought(self):
        question = ((2, ((0, 1),), ()), (), (), (0,), (1,))
        told = ((2, 2), (), (((1, 1),), ((3, 1), (1, 3))))
        self.assertIs(is_apart(question, "forget", 0, (told, (0, 0))), True)
        for tables in [(((1, 1),), ((3, 1), (0, 3))), (((1, 0),), ((3, 1), (1, 3)))]:
            self.assertIs(is_apart(question, "forget", 0, (((2, 2), (), tables), (0, 0))), False)
        # The table of what is set by hand counts, too: the world has to be positive.
        undone = (question[0], (), (0,), (), (1,))
        self.assertIs(is_apart(undone, "undo", 0, (told, (0, 0))), True)
        self.assertIs(is_apart(undone, "undo", 0, (((2, 2), (), (((1, 0),), told[2][1])), (0, 0))), False)

    def test_rows_that_are_alike(self):
        # 1 hangs on 0 in the value 2 of 1 alone.
        question = ((2, ((0, 1),), ()), (), (), (0,), (1,))
        world = ((2, 3), (), (((1, 1),), ((2, 3, 1), (2, 1, 3))))
        self.assertEqual(self.compare(question, "forget", 0, world), [(0, 1), (0, 2), (1, 1), (1, 2)])

    def test_one_rule_is_not_another(self):
        # Seen or set is the same for 0, but forgotten it is not.
        question = ((2, ((0, 1),), ()), (), (), (0,), (1,))
        told = apart(question, "forget", 0)
        self.assertIs(is_apart(question, "set", 0, told), False)

    def test_worlds_of_other_drawings(self):
        told = apart(SEEN_BOTH, "forget", 0)
        self.assertIs(is_apart(SEEN_BOTH, "forget", 0, told), True)
        for drawing in [(3, ((0, 1), (1, 2)), ()), (3, ((0, 1), (0, 2), (1, 2)), ((0, 2),)), (3, (), ((0, 2),)),
                        (3, ((0, 1), (1, 2)), ((0, 1),)), (4, ((0, 1), (1, 2)), ((0, 2),))]:
            self.assertIs(is_apart((drawing,) + SEEN_BOTH[1:], "forget", 0, told), False)
        # A world of the cut drawing is none of the drawing.
        cut = (EXAMPLE, (), (), (1,), (2,))
        world = hanging(EXAMPLE, (), (1,), 1, (2,), ())
        self.assertIs(is_apart(cut, "set", 1, (world, (0, 0))), False)

    def test_values_of_all_kinds(self):
        told = world, row = apart(SEEN_BOTH, "forget", 0)
        for value in NO_TUPLES + [(), (world,), (world, row, ()), [world, row], (row, world), (HOSTILE, row),
                                  (world, HOSTILE), (HOSTILE, HOSTILE), (None, row), (world, None)]:
            self.assertIs(is_apart(SEEN_BOTH, "forget", 0, value), False)
        for bad in spoilt_worlds(world):
            self.assertIs(is_apart(SEEN_BOTH, "forget", 0, (bad, row)), False)
        for bad in NO_TUPLES + [(), row[:-1], row + (0,), list(row), (-1,) + row[1:], (64,) + row[1:],
                                (False,) + row[1:], (0.0,) + row[1:], ("0",) + row[1:], (HOSTILE,) + row[1:],
                                (10 ** 5000,) + row[1:]]:
            self.assertIs(is_apart(SEEN_BOTH, "forget", 0, (world, bad)), False)
        self.assertIs(is_apart(SEEN_BOTH, "forget", 0, told), True)

    def test_more_values_than_the_told_world(self):
        # Free: any number of values.
        question = ((2, ((0, 1),), ()), (), (), (0,), (1,))
        rows = tuple((1,) * at + (2,) + (1,) * (39 - at) for at in range(40))
        self.assertIs(is_apart(question, "forget", 0, (((40, 40), (), (((1,) * 40,), rows)), (39, 39))), True)
        great = ((64, 64, 5), (), (((1,) * 64,), ((2,) + (1,) * 63,) * 64, ((1,) * 5,)))
        self.assertIs(is_apart(((3, ((0, 1),), ()), (), (), (0,), (1,)), "forget", 0, (great, (0, 0))), False)


if __name__ == "__main__":
    unittest.main()
