"""[8], [20]: open roads, against all roads of a drawing listed one by one."""

import random
import unittest
from itertools import product

from deedseen import roads
from deedseen.errors import BadLot, BadParameter, NoRow
from tests.helping import (BAD_DRAWING, EXAMPLE, HOSTILE, NO_INTEGERS, NO_TUPLES, all_arrows, all_drawings,
                           assert_first_told, assert_plain, assert_refused, bad_lot, bad_parameter, lots,
                           some_drawing, some_of, subsets)


def kinds_between(drawing, over, under, one, other):
    """All kinds from a thing to another one, as their order is."""
    _, arrows, causes = drawing
    kinds = []
    if (one, other) in arrows and other not in over and one not in under:
        kinds.append("to")
    if (other, one) in arrows and one not in over and other not in under:
        kinds.append("from")
    if one not in over and other not in over:
        kinds += [at for at, cause in enumerate(causes) if one in cause and other in cause]
    return kinds


def all_roads(drawing, over, under, one, others):
    """All roads, open or not."""
    found = []

    def go(things, kinds):
        if len(things) > 1 and things[-1] in others:
            found.append((things, kinds))
        for other in range(drawing[0]):
            if other not in things:
                for kind in kinds_between(drawing, over, under, things[-1], other):
                    go(things + (other,), kinds + (kind,))

    go((one,), ())
    return found


def leads_to_seen(drawing, over, under, thing, seen):
    return thing in seen or any(leads_to_seen(drawing, over, under, end, seen) for start, end in drawing[1]
                                if start == thing and start not in under and end not in over)


def plain_open(drawing, over, under, seen, road):
    things, kinds = road
    for at in range(1, len(things) - 1):
        if kinds[at - 1] != "from" and kinds[at] != "to":
            if not leads_to_seen(drawing, over, under, things[at], seen):
                return False
        elif things[at] in seen:
            return False
    return True


def rank(road):
    """Fewest things, then the things, then the kinds: arrows ahead of causes."""
    things, kinds = road
    return len(things), things, [(0, 0) if kind in ("to", "from") else (1, kind) for kind in kinds]


def all_ends(count):
    """All ways to choose `one`, `others` and `seen`."""
    for one in range(count):
        rest = [thing for thing in range(count) if thing != one]
        for places in product(range(3), repeat=len(rest)):
            others = tuple(thing for thing, place in zip(rest, places) if place == 1)
            if others:
                yield one, others, tuple(thing for thing, place in zip(rest, places) if place == 2)


def some_ends(chooser, count):
    things = list(range(count))
    chooser.shuffle(things)
    others = chooser.randint(1, max(1, count // 3))
    seen = chooser.randint(0, count - 1 - others)
    return things[0], tuple(sorted(things[1:1 + others])), tuple(sorted(things[1 + others:1 + others + seen]))


def bent(chooser, road, drawing):
    """Values that are much like a road."""
    things, kinds = road
    at = chooser.randrange(len(kinds))
    kind = chooser.choice(["to", "from", 0, 1, len(drawing[2]), -1, True, False, None, "", "To", 0.0, b"to", ("to",),
                           HOSTILE])
    place = chooser.randrange(len(things))
    thing = chooser.choice([*range(drawing[0]), -1, drawing[0], True, False, None, 1.0, "1", HOSTILE])
    return [
        (things, kinds[:at] + (kind,) + kinds[at + 1:]),
        (things[:place] + (thing,) + things[place + 1:], kinds),
        (things[::-1], kinds[::-1]), (things, kinds[::-1]), (things[:-1], kinds[:-1]), (things[1:], kinds[1:]),
        (things + things[:1], kinds + ("from",)), (things + (thing,), kinds + (kind,)), (things, kinds + (kind,)),
        (things[:-1], kinds), (things[:1], ()), (things, kinds[:-1]), (list(things), kinds), (things, list(kinds)),
        [things, kinds], (things, kinds, ()), (things,), things, kinds, (kinds, things), (things, "to"),
    ]


def is_same(value, road):
    """Equal, and of the same kinds throughout."""
    if type(value) is not type(road):
        return False
    if type(value) is tuple:
        return len(value) == len(road) and all(is_same(one, other) for one, other in zip(value, road))
    return value == road


class RoadsTest(unittest.TestCase):

    def compare(self, drawing, over, under, one, others, seen, chooser=None):
        every = all_roads(drawing, over, under, one, others)
        let = [road for road in every if plain_open(drawing, over, under, seen, road)]
        ends = (drawing, over, under, one, others, seen)
        for road in every:
            self.assertIs(roads.is_open_road(*ends, road), road in let)
        self.assertIs(roads.shut(*ends), not let)
        if not let:
            assert_refused(self, NoRow, {}, roads.open_road, *ends)
        else:
            told = roads.open_road(*ends)
            self.assertEqual(told, min(let, key=rank))
            assert_plain(self, told)
        if chooser and every:
            for road in chooser.sample(every, min(3, len(every))):
                for value in bent(chooser, road, drawing):
                    told = any(is_same(value, other) for other in let)
                    self.assertIs(roads.is_open_road(*ends, value), told)

    def test_all_small_drawings(self):
        for drawing in all_drawings(2):
            for over in lots(2):
                for under in lots(2):
                    for ends in all_ends(2):
                        self.compare(drawing, over, under, *ends)

    def test_all_drawings_of_three_things(self):
        chooser = random.Random(20)
        cuts = [(over, under) for over in lots(3) for under in lots(3)]
        for drawing in all_drawings(3):
            for ends in all_ends(3):
                self.compare(drawing, (), (), *ends, chooser)
                self.compare(drawing, *chooser.choice(cuts), *ends, chooser)

    def test_all_cuts_of_a_few_drawings_of_three_things(self):
        for drawing in all_drawings(3)[5::16] + [(3, all_arrows(3), ((0, 1), (0, 1, 2), (0, 2), (1, 2)))]:
            for over in lots(3):
                for under in lots(3):
                    for ends in all_ends(3):
                        self.compare(drawing, over, under, *ends)

    def test_drawings_of_four_and_five_things(self):
        chooser = random.Random(201)
        for count, many in ((4, 700), (5, 150)):
            for _ in range(many):
                drawing = some_drawing(chooser, count)
                drawing = drawing[:2] + (drawing[2][:3],)
                over, under = chooser.choice([((), ()), (some_of(chooser, range(count)), ()),
                                              (some_of(chooser, range(count), 1), some_of(chooser, range(count), 1))])
                self.compare(drawing, over, under, *some_ends(chooser, count), chooser)

    def test_thin_drawings_of_seven_things(self):
        chooser = random.Random(202)
        for _ in range(120):
            arrows = some_of(chooser, all_arrows(7), 6)
            causes = tuple(sorted({some_of(chooser, range(7), 2) for _ in range(3)}))
            self.compare((7, arrows, causes), (), (), *some_ends(chooser, 7), chooser)

    def test_long_roads(self):
        every = tuple(range(10))
        pairs = tuple((thing, thing + 1) for thing in range(9))
        self.assertEqual(roads.open_road((10, pairs, ()), (), (), 0, (9,), ()), (every, ("to",) * 9))
        self.assertEqual(roads.open_road((10, pairs, ()), (), (), 9, (0,), ()), (every[::-1], ("from",) * 9))
        self.assertIs(roads.shut((10, pairs, ()), (), (), 0, (9,), (4,)), True)
        causes = (10, (), pairs)
        self.assertEqual(roads.open_road(causes, (), (), 0, (9,), every[1:9]), (every, tuple(range(9))))
        for seen in [(), (1,), every[1:8], every[2:9]]:
            self.assertIs(roads.shut(causes, (), (), 0, (9,), seen), True)

    def test_ten_things_with_all_arrows(self):
        drawing = (10, all_arrows(10), tuple((0, thing) for thing in range(1, 10)))
        self.assertEqual(roads.open_road(drawing, (), (), 0, (9,), ()), ((0, 9), ("to",)))
        self.assertEqual(roads.open_road(drawing, (), (0,), 0, (9,), ()), ((0, 9), (8,)))
        self.assertIs(roads.shut(drawing, (9,), (0,), 0, (9,), ()), True)
        drawing = drawing[:2] + (drawing[2][:8],)
        self.assertEqual(roads.open_road(drawing, (), (0,), 0, (9,), ()), ((0, 1, 9), (0, "to")))
        self.assertEqual(roads.open_road(drawing, (), (0,), 0, (9,), (1, 2, 3)), ((0, 4, 9), (3, "to")))

    def test_the_least_of_equally_long_ones(self):
        drawing = (4, ((0, 1), (1, 2)), ((0, 1), (0, 1, 2), (0, 3), (2, 3)))
        self.assertEqual(roads.open_road(drawing, (), (), 0, (1,), ()), ((0, 1), ("to",)))
        self.assertEqual(roads.open_road(drawing, (), (0,), 0, (1,), ()), ((0, 1), (0,)))
        self.assertEqual(roads.open_road(drawing, (), (), 0, (2,), ()), ((0, 2), (1,)))
        self.assertEqual(roads.open_road(drawing, (), (), 0, (2, 3), ()), ((0, 2), (1,)))
        self.assertEqual(roads.open_road(drawing, (), (), 3, (1,), ()), ((3, 0, 1), (2, "to")))
        # The least things come ahead of the least kinds: 0, 1, 3 by causes ahead of 0, 2, 3 by arrows.
        drawing = (4, ((0, 2), (2, 3)), ((0, 1), (1, 3)))
        self.assertEqual(roads.open_road(drawing, (), (), 0, (3,), ()), ((0, 2, 3), ("to", "to")))
        self.assertEqual(roads.open_road(drawing, (), (), 0, (3,), (1,)), ((0, 1, 3), (0, 1)))
        # Of the same things an arrow comes ahead of a cause, on the way out as well as at the end.
        drawing = (3, ((0, 1), (1, 2)), ((0, 1), (1, 2)))
        self.assertEqual(roads.open_road(drawing, (), (1,), 0, (2,), (1,)), ((0, 1, 2), ("to", 1)))

    def test_the_first_kinds_may_not_do(self):
        # By the arrow into 1 no way leads on to 2 with 1 seen; by the cause none does with 1 unseen.
        drawing = (3, ((0, 1), (1, 2)), ((0, 1), (1, 2)))
        self.assertEqual(roads.open_road(drawing, (), (), 0, (2,), (1,)), ((0, 1, 2), ("to", 1)))
        self.assertEqual(roads.open_road(drawing, (), (), 0, (2,), ()), ((0, 1, 2), ("to", "to")))
        self.assertEqual(roads.open_road(drawing, (), (0, 1), 0, (2,), (1,)), ((0, 1, 2), (0, 1)))

    def test_a_meeting_that_leads_to_a_seen_thing(self):
        drawing = (5, ((0, 2), (1, 2), (2, 3), (3, 4)), ())
        self.assertIs(roads.shut(drawing, (), (), 0, (1,), ()), True)
        self.assertEqual(roads.open_road(drawing, (), (), 0, (1,), (4,)), ((0, 2, 1), ("to", "from")))
        self.assertIs(roads.shut(drawing, (), (3,), 0, (1,), (4,)), True)
        self.assertIs(roads.shut(drawing, (3,), (), 0, (1,), (4,)), True)
        self.assertIs(roads.shut(drawing, (), (3,), 0, (1,), (3,)), False)

    def test_example(self):
        meeting = (3, ((0, 2), (1, 2)), ())
        self.assertIs(roads.shut(meeting, (), (), 0, (1,), ()), True)
        self.assertEqual(roads.open_road(meeting, (), (), 0, (1,), (2,)), ((0, 2, 1), ("to", "from")))
        self.assertEqual(roads.open_road(EXAMPLE, (), (0,), 0, (2,), ()), ((0, 2), (0,)))
        self.assertEqual(roads.open_road(EXAMPLE, (0,), (), 0, (2,), ()), ((0, 1, 2), ("to", "to")))
        self.assertIs(roads.shut(EXAMPLE, (0,), (), 0, (2,), (1,)), True)

    def test_one_of_the_others_inside_a_road(self):
        drawing = (3, ((0, 1), (1, 2)), ())
        self.assertEqual(roads.open_road(drawing, (), (), 0, (1, 2), ()), ((0, 1), ("to",)))
        self.assertIs(roads.is_open_road(drawing, (), (), 0, (1, 2), (), ((0, 1, 2), ("to", "to"))), True)

    def test_values_of_all_kinds(self):
        ends = (EXAMPLE, (), (), 0, (2,), ())
        for value in NO_TUPLES + [(), (0,), ((), ()), ((0,), ()), ((0, 2), ()), ((0, 2), (HOSTILE,)),
                                  ((0, HOSTILE), (0,)), (HOSTILE, HOSTILE), ((False, 2), (0,)), ((0, 2), (False,)),
                                  ((0, 2.0), (0,)), ((0, 2), (0.0,)), ((0, 2), (1,)), ((0, 2), (-1,)),
                                  ((0, 2), ("to",)), ((0, 2, 0), (0, 0)), ((0, 2), (10 ** 5000,)),
                                  ((0, 10 ** 5000), (0,)), (tuple(range(1000)), ("to",) * 999)]:
            self.assertIs(roads.is_open_road(*ends, value), False)
        self.assertIs(roads.is_open_road(*ends, ((0, 2), (0,))), True)
        self.assertIs(roads.is_open_road(drawing=EXAMPLE, over=(), under=(), one=0, others=(2,), seen=(),
                                         value=((0, 1, 2), ("to", "to"))), True)


class FactsTest(unittest.TestCase):

    def test_open_with_more_arrows_and_causes(self):
        for drawing in all_drawings(3)[::3]:
            count, arrows, causes = drawing
            more = [(count, tuple(sorted(arrows + (arrow,))), causes) for arrow in all_arrows(3) if arrow not in arrows]
            for lot in ((0, 1), (0, 1, 2), (0, 2), (1, 2)):
                if lot not in causes:
                    more.append((count, arrows, tuple(sorted(causes + (lot,)))))
            for one, others, seen in all_ends(3):
                if roads.shut(drawing, (), (), one, others, seen):
                    continue
                things, kinds = roads.open_road(drawing, (), (), one, others, seen)
                for greater in more:
                    now = tuple(kind if type(kind) is str else greater[2].index(causes[kind]) for kind in kinds)
                    self.assertIs(roads.is_open_road(greater, (), (), one, others, seen, (things, now)), True)

    def test_turned_about(self):
        chooser = random.Random(203)
        turned = {"to": "from", "from": "to"}
        for _ in range(400):
            drawing = some_drawing(chooser, 5)
            over, under = some_of(chooser, range(5), 1), some_of(chooser, range(5), 1)
            one, others, seen = some_ends(chooser, 5)
            other = others[0]
            shut = roads.shut(drawing, over, under, one, (other,), seen)
            self.assertIs(roads.shut(drawing, over, under, other, (one,), seen), shut)
            if not shut:
                things, kinds = roads.open_road(drawing, over, under, one, (other,), seen)
                back = (things[::-1], tuple(turned.get(kind, kind) for kind in kinds[::-1]))
                self.assertIs(roads.is_open_road(drawing, over, under, other, (one,), seen, back), True)


class ParametersTest(unittest.TestCase):

    RIGHT = {"drawing": EXAMPLE, "over": (0,), "under": (1,), "one": 0, "others": (2,), "seen": ()}
    FUNCTIONS = (roads.open_road, roads.shut, roads.is_open_road)

    def right(self, function):
        # Shut roads would be refused, too.
        told = {**self.RIGHT, "over": (), "under": ()}
        return {**told, "value": None} if function is roads.is_open_road else told

    def test_order(self):
        wrong = {"drawing": BAD_DRAWING, "over": bad_lot((1, 0)), "under": bad_lot((3,)), "one": bad_parameter(3),
                 "others": bad_lot(()), "seen": bad_lot((0,))}
        for function in self.FUNCTIONS:
            assert_first_told(self, function, self.right(function), wrong)

    def test_each_wrong_value(self):
        no_lots = NO_TUPLES + [(3,), (-1,), (1, 0), (0, 0), (True,), (0.0,), (HOSTILE,), [0]]
        for function in self.FUNCTIONS:
            right = self.right(function)
            for name, values in [("over", no_lots), ("under", no_lots),
                                 ("others", no_lots + [(), (0,), (0, 1), (0, 2), (0, 1, 2)]),
                                 ("seen", no_lots + [(0,), (2,), (0, 1), (1, 2), (0, 1, 2)])]:
                for value in values:
                    assert_refused(self, BadLot, {"value": value}, function, **{**right, name: value})
            for value in NO_INTEGERS + [-1, 3, 10 ** 5000]:
                assert_refused(self, BadParameter, {"value": value}, function, **{**right, "one": value})

    def test_one_of_several_others_seen(self):
        for function in self.FUNCTIONS:
            right = {**self.right(function), "others": (1, 2)}
            for seen in [(1,), (2,), (1, 2), (0,)]:
                assert_refused(self, BadLot, {"value": seen}, function, **{**right, "seen": seen})

    def test_one_thing_alone_has_no_others(self):
        for others in subsets((0,)):
            assert_refused(self, BadLot, {"value": others}, roads.shut, (1, (), ()), (), (), 0, others, ())


if __name__ == "__main__":
    unittest.main()
