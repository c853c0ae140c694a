"""[21]: worlds in which things hang together, by plain sums."""

import random
import unittest

from deedseen import hanging as module
from deedseen.errors import BadLot, BadParameter, NoRow, TooGreat
from deedseen.roads import cut_drawing, open_road, shut
from deedseen.worlds import need_world
from tests.helping import (BAD_DRAWING, EXAMPLE, HOSTILE, NO_INTEGERS, NO_TUPLES, all_drawings, assert_first_told,
                           assert_plain, assert_refused, bad_lot, bad_parameter, lots, some_drawing, some_of,
                           some_world)
from tests.plain import plain_factor, plain_sums, ranges
from tests.test_roads import all_ends, some_ends


def plain_hang(drawing, world, one, others, seen):
    """Whether they hang together, by the document's four sums for each row; False if the world isn't open."""
    told = plain_factor(drawing, world, range(drawing[0]))
    if min(told) == 0:
        return False
    lot = (one,) + others + seen
    sums = [plain_sums(world[0], told, things) for things in (lot, seen, (one,) + seen, others + seen)]
    for row in ranges([world[0][thing] for thing in lot]):
        first, middle, last = row[:1], row[1:1 + len(others)], row[1 + len(others):]
        if sums[0][row] * sums[1][last] != sums[2][first + last] * sums[3][middle + last]:
            return True
    return False


def many_rows(world):
    many = 1
    for size in list(world[0]) + [len(weights) for weights in world[1]]:
        many *= size
    return many


def way_lengths(cut, road, seen):
    """From each meeting of a road how many arrows lead to a thing of SEEN, at least."""
    things, kinds = road
    for at in range(1, len(things) - 1):
        if kinds[at - 1] != "from" and kinds[at] != "to":
            reached, length = {things[at]}, 0
            while not reached & set(seen):
                reached = {end for start, end in cut[1] if start in reached}
                length += 1
            yield length


def told_rows(drawing, over, under, one, others, seen):
    """Two to the number of the bits and coins that the least open road asks for."""
    road = open_road(drawing, over, under, one, others, seen)
    lengths = way_lengths(cut_drawing(drawing, over, under), road, seen)
    return 2 ** (len(road[0]) + sum(type(kind) is int for kind in road[1]) + sum(lengths))


def bent_worlds(chooser, drawing, world):
    """Worlds of the drawing that are like another one, but for one place."""
    sizes, hidden, tables = world
    told = []
    for at, weights in enumerate(hidden):
        told.append((sizes, hidden[:at] + (weights[:-1] + (0 if any(weights[:-1]) else 1,),) + hidden[at + 1:], tables))
        told.append((sizes, hidden[:at] + ((1,) + (0,) * (len(weights) - 1),) + hidden[at + 1:], tables))
    for at, table in enumerate(tables):
        place = chooser.randrange(len(table))
        even, first = (1,) * sizes[at], (1,) + (0,) * (sizes[at] - 1)
        for rows in ((even,) * len(table), table[:place] + (even,) + table[place + 1:],
                     table[:place] + (first,) + table[place + 1:], table[::-1]):
            told.append((sizes, hidden, tables[:at] + (rows,) + tables[at + 1:]))
    return told


def spoilt_worlds(world):
    """What is no world, though much like one."""
    sizes, hidden, tables = world
    told = [(sizes, hidden), (sizes, hidden, tables, ()), [sizes, hidden, tables], (hidden, sizes, tables),
            (sizes, hidden, tables[:-1]), (sizes + (1,), hidden, tables), (list(sizes), hidden, tables),
            (sizes, hidden + ((1,),), tables), (sizes, hidden, tables[:-1] + (tables[-1] + tables[-1],)),
            (sizes, hidden, tables[:-1] + (tables[-1][:-1] + ((0,) * sizes[-1],),)),
            (sizes, hidden, tables[:-1] + (tables[-1][:-1] + ((True,) * sizes[-1],),)),
            (sizes, hidden, tables[:-1] + (tables[-1][:-1] + ((10 ** 6 + 1,) * sizes[-1],),)),
            (sizes, hidden, tables[:-1] + (HOSTILE,)), (HOSTILE, HOSTILE, HOSTILE)]
    return told


class HangingTest(unittest.TestCase):

    def compare(self, drawing, over, under, one, others, seen, chooser):
        ends = (drawing, over, under, one, others, seen)
        cut = cut_drawing(drawing, over, under)
        if shut(*ends):
            assert_refused(self, NoRow, {}, module.hanging, *ends)
            world = some_world(chooser, cut, hidden=tuple(chooser.randint(1, 2) for _ in cut[2]), least=1)
            self.assertIs(plain_hang(cut, world, one, others, seen), False)
            self.assertIs(module.is_hanging(*ends, world), False)
            return
        rows = told_rows(*ends)
        if rows > 16384:
            assert_refused(self, TooGreat, {"most": 16384}, module.hanging, *ends)
            return
        world = module.hanging(*ends)
        self.assertIs(need_world(cut, world), world)
        assert_plain(self, world)
        self.assertLessEqual(many_rows(world), rows)
        self.assertIs(module.is_hanging(*ends, world), True)
        if rows <= 256:
            self.assertIs(plain_hang(cut, world, one, others, seen), True)

    def test_all_small_drawings(self):
        chooser = random.Random(21)
        for drawing in all_drawings(2):
            for over in lots(2):
                for under in lots(2):
                    for ends in all_ends(2):
                        self.compare(drawing, over, under, *ends, chooser)

    def test_drawings_of_three_things_with_up_to_two_causes(self):
        chooser = random.Random(211)
        cuts = [(over, under) for over in lots(3) for under in lots(3)]
        for drawing in all_drawings(3):
            if len(drawing[2]) <= 2:
                for ends in all_ends(3):
                    self.compare(drawing, (), (), *ends, chooser)
                    for over, under in chooser.sample(cuts, 3):
                        self.compare(drawing, over, under, *ends, chooser)

    def test_all_cuts_of_a_few_drawings(self):
        chooser = random.Random(212)
        for drawing in all_drawings(3)[9::24]:
            for over in lots(3):
                for under in lots(3):
                    for ends in all_ends(3):
                        self.compare(drawing, over, under, *ends, chooser)

    def test_drawings_of_four_and_five_things(self):
        chooser = random.Random(213)
        for count, many in ((4, 400), (5, 250)):
            for _ in range(many):
                drawing = some_drawing(chooser, count)
                drawing = drawing[:2] + (drawing[2][:3],)
                over, under = chooser.choice([((), ()), (some_of(chooser, range(count), 1), ()),
                                              (some_of(chooser, range(count), 1), some_of(chooser, range(count), 1))])
                self.compare(drawing, over, under, *some_ends(chooser, count), chooser)

    def test_long_roads(self):
        chooser = random.Random(214)
        every = tuple(range(10))
        pairs = tuple((thing, thing + 1) for thing in range(9))
        self.compare((10, pairs, ()), (), (), 0, (9,), (), chooser)
        self.compare((10, pairs, ()), (), (), 9, (0,), (), chooser)
        self.compare((10, pairs, ()), (), (), 5, (0, 9), (), chooser)
        # 8 things and 6 coins: just 2 ** 14 rows. With one coin more there are too many.
        ends = (0, (7,), every[1:6], chooser)
        self.compare((8, ((6, 7),), pairs[:6]), (), (), *ends)
        self.assertEqual(told_rows((8, ((6, 7),), pairs[:6]), (), (), 0, (7,), every[1:6]), 16384)
        self.assertEqual(many_rows(module.hanging((8, ((6, 7),), pairs[:6]), (), (), 0, (7,), every[1:6])), 16384)
        assert_refused(self, TooGreat, {"most": 16384}, module.hanging, (8, (), pairs[:7]), (), (), 0, (7,), every[1:7])
        assert_refused(self, TooGreat, {"most": 16384}, module.hanging, (10, (), pairs), (), (), 0, (9,), every[1:9])

    def test_meetings_that_lead_far(self):
        chooser = random.Random(215)
        # The ways of two meetings go through the same things, and one through the beginning of the road itself.
        drawing = (6, ((0, 1), (1, 4), (2, 3), (3, 4), (4, 5)), ((0, 3), (1, 2)))
        for seen in [(5,), (4,), (4, 5)]:
            self.compare(drawing, (), (), 0, (2,), seen, chooser)
            self.compare(drawing, (), (), 2, (0,), seen, chooser)
        drawing = (5, ((0, 1), (1, 2), (2, 3), (3, 4)), ((1, 3),))
        self.assertEqual(open_road(drawing, (), (), 3, (0,), (4,)), ((3, 1, 0), (0, "from")))
        self.compare(drawing, (), (), 3, (0,), (4,), chooser)
        self.compare(drawing, (), (), 0, (3,), (4,), chooser)
        self.compare(drawing, (), (), 0, (2, 3), (4,), chooser)
        # A short way and a long one; a way that is cut, and one that is not.
        drawing = (6, ((0, 2), (1, 2), (2, 3), (2, 5), (3, 4), (4, 5)), ())
        self.compare(drawing, (), (), 0, (1,), (5,), chooser)
        drawing = (6, ((0, 2), (1, 2), (2, 3), (2, 4), (3, 5), (4, 5)), ())
        self.compare(drawing, (), (), 0, (1,), (5,), chooser)
        self.compare(drawing, (), (3,), 0, (1,), (5,), chooser)
        self.compare(drawing, (3,), (), 0, (1,), (5,), chooser)

    def test_causes_of_the_cut_drawing(self):
        # The cause of the road has another number there.
        drawing = (4, (), ((0, 1, 3), (0, 2), (1, 2)))
        self.assertEqual(cut_drawing(drawing, (0,), ()), (4, (), ((1, 2), (1, 3))))
        self.compare(drawing, (0,), (), 1, (3,), (), random.Random(216))
        self.compare(drawing, (0,), (), 1, (2,), (), random.Random(216))

    def test_examples_by_name(self):
        meeting = (3, ((0, 2), (1, 2)), ())
        named = {"drawing": meeting, "over": (), "under": (), "one": 0, "others": (1,), "seen": (2,)}
        world = module.hanging(**named)
        self.assertIs(plain_hang(meeting, world, 0, (1,), (2,)), True)
        self.assertIs(module.is_hanging(**named, value=world), True)
        self.assertIs(module.is_hanging(**{**named, "seen": ()}, value=world), False)
        assert_refused(self, NoRow, {}, module.hanging, **{**named, "seen": ()})


class IsHangingTest(unittest.TestCase):

    def test_bent_worlds(self):
        chooser = random.Random(217)
        for _ in range(150):
            count = chooser.choice([2, 3, 3, 4])
            drawing = some_drawing(chooser, count)
            drawing = drawing[:2] + (drawing[2][:3],)
            over, under = some_of(chooser, range(count), chooser.randint(0, 1)), some_of(chooser, range(count), 1)
            ends = (drawing, over, under) + some_ends(chooser, count)
            if shut(*ends):
                continue
            cut = cut_drawing(drawing, over, under)
            world = module.hanging(*ends)
            for value in bent_worlds(chooser, cut, world):
                need_world(cut, value)
                self.assertIs(module.is_hanging(*ends, value), plain_hang(cut, value, *ends[3:]))
            for value in spoilt_worlds(world):
                self.assertIs(module.is_hanging(*ends, value), False)

    def test_drawn_worlds(self):
        chooser = random.Random(218)
        found = set()
        for _ in range(300):
            count = chooser.choice([2, 3, 4])
            drawing = some_drawing(chooser, count)
            drawing = drawing[:2] + (drawing[2][:2],)
            ends = (drawing, (), ()) + some_ends(chooser, count)
            world = some_world(chooser, drawing, least=chooser.choice([0, 1]), most=2)
            told = plain_hang(drawing, world, *ends[3:])
            self.assertIs(module.is_hanging(*ends, world), told)
            found.add((told, shut(*ends)))
        self.assertEqual(found, {(True, False), (False, False), (False, True)})

    def test_only_one_row_tells(self):
        # The things are bound in a single one of many rows of values.
        drawing = (2, ((0, 1),), ())
        even = ((1, 1, 1),) * 3
        world = ((3, 3), (), (((5, 1, 1),), even[:2] + ((1, 1, 2),)))
        self.assertIs(module.is_hanging(drawing, (), (), 0, (1,), (), world), True)
        self.assertIs(module.is_hanging(drawing, (), (), 0, (1,), (), ((3, 3), (), (((5, 1, 1),), even))), False)

    def test_open_alone(self):
        drawing = (2, ((0, 1),), ())
        self.assertIs(module.is_hanging(drawing, (), (), 0, (1,), (), ((2, 2), (), (((1, 1),), ((1, 0), (1, 3))))),
                      False)
        self.assertIs(module.is_hanging(drawing, (), (), 0, (1,), (), ((2, 2), (), (((1, 1),), ((2, 1), (1, 3))))),
                      True)

    def test_worlds_of_other_drawings(self):
        world = module.hanging(EXAMPLE, (), (), 0, (2,), ())
        self.assertIs(module.is_hanging(EXAMPLE, (), (), 0, (2,), (), world), True)
        # That is a world of the drawing, but not of the cut one.
        self.assertIs(module.is_hanging(EXAMPLE, (2,), (), 0, (2,), (), world), False)
        self.assertIs(module.is_hanging((2, ((0, 1),), ()), (), (), 0, (1,), (), world), False)
        self.assertIs(module.is_hanging((3, ((0, 1), (0, 2), (1, 2)), ((0, 2),)), (), (), 0, (2,), (), world), False)
        self.assertIs(module.is_hanging((3, ((0, 1), (1, 2)), ()), (), (), 0, (2,), (), world), False)

    def test_more_rows_than_the_least_road_asks_for(self):
        drawing = (2, ((0, 1),), ())
        rows = tuple((1,) * at + (2,) + (1,) * (39 - at) for at in range(40))
        self.assertIs(module.is_hanging(drawing, (), (), 0, (1,), (), ((40, 40), (), (((1,) * 40,), rows))), True)

    def test_too_many_rows_are_no_world(self):
        drawing = (3, ((0, 1),), ())
        def world(last):
            return (64, 64, last), (), (((1,) * 64,), ((2,) + (1,) * 63,) + ((1,) * 64,) * 63, ((1,) * last,))
        self.assertIs(module.is_hanging(drawing, (), (), 0, (1,), (), world(4)), True)
        self.assertIs(module.is_hanging(drawing, (), (), 0, (1,), (), world(5)), False)

    def test_values_of_all_kinds(self):
        for value in NO_TUPLES + [(), (HOSTILE,) * 3, ((), (), ())]:
            self.assertIs(module.is_hanging(EXAMPLE, (), (), 0, (2,), (), value), False)
            self.assertIs(module.is_hanging((3, (), ()), (), (), 0, (2,), (), value), False)


class ParametersTest(unittest.TestCase):

    RIGHT = {"drawing": EXAMPLE, "over": (), "under": (), "one": 0, "others": (2,), "seen": ()}

    def right(self, function):
        return {**self.RIGHT, "value": None} if function is module.is_hanging else self.RIGHT

    def test_order(self):
        wrong = {"drawing": BAD_DRAWING, "over": bad_lot((1, 0)), "under": bad_lot((3,)), "one": bad_parameter(3),
                 "others": bad_lot(()), "seen": bad_lot((0,))}
        for function in (module.hanging, module.is_hanging):
            assert_first_told(self, function, self.right(function), wrong)

    def test_each_wrong_value(self):
        no_lots = NO_TUPLES + [(3,), (-1,), (1, 0), (0, 0), (True,), (0.0,), (HOSTILE,), [0]]
        for function in (module.hanging, module.is_hanging):
            right = self.right(function)
            for name, values in [("over", no_lots), ("under", no_lots), ("others", no_lots + [(), (0,), (0, 2)]),
                                 ("seen", no_lots + [(0,), (2,), (1, 2)])]:
                for value in values:
                    assert_refused(self, BadLot, {"value": value}, function, **{**right, name: value})
            for value in NO_INTEGERS + [-1, 3, 10 ** 5000]:
                assert_refused(self, BadParameter, {"value": value}, function, **{**right, "one": value})


if __name__ == "__main__":
    unittest.main()
