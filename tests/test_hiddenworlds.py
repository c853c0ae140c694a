"""[43]: worlds without a thing, and back, by plain sums."""

import random
import unittest
from math import gcd

from deedseen.answers import answer
from deedseen.errors import BadDrawing, BadParameter, BadWorld, TooGreat
from deedseen.hiddenworlds import world_hidden, world_shown
from deedseen.hiding import hidden
from deedseen.watching import hidden_all
from deedseen.worlds import need_world
from tests.helping import (BAD_DRAWING, EXAMPLE, NO_INTEGERS, NO_TUPLES, all_arrows, all_causes, all_drawings,
                           assert_first_told, assert_plain, assert_refused, bad_parameter, refusal, some_drawing,
                           some_world)
from tests.plain import some_lots
from tests.plain_hiding import same_without
from tests.plain_rules import further_things

BAD_WORLD = (None, BadWorld, {"place": ()})
BOTH = (3, ((1, 2),), ((0, 1), (0, 2)))
FORK = (3, ((0, 1), (0, 2)), ())


def a_world(drawing, sizes=None, hidden_weights=None, tables=None):
    """A world all of whose weights are 1, but for those told."""
    count, arrows, causes = drawing
    sizes = sizes or (2,) * count
    hidden_weights = hidden_weights or ((1, 1),) * len(causes)
    told = []
    for thing in range(count):
        rows = 1
        for start, end in arrows:
            rows *= sizes[start] if end == thing else 1
        for cause, weights in zip(causes, hidden_weights):
            rows *= len(weights) if thing in cause else 1
        told.append((tables or {}).get(thing, ((1,) * sizes[thing],) * rows))
    return need_world(drawing, (sizes, hidden_weights, tuple(told)))


def sides(drawing, thing):
    """How many children a thing has; whether causes become alike; whether one is left with one thing."""
    children = tuple(end for start, end in drawing[1] if start == thing)
    images = [set(cause) - {thing} | set(children) if thing in cause else set(cause) for cause in drawing[2]]
    every = images + [set(children)]
    alike = any(len(one) > 1 and one == other for at, one in enumerate(every) for other in every[at + 1:])
    return min(len(children), 2), alike, any(len(image) == 1 for image in images)


class WorldsTest(unittest.TestCase):

    def check_hidden(self, drawing, world, thing):
        """The world without the thing; None if there would be too much of something."""
        left = hidden(drawing, thing)
        found = refusal(world_hidden, drawing, world, thing)
        if found:
            self.assertIs(found[0], TooGreat)
            return None
        told = world_hidden(drawing, world, thing)
        assert_plain(self, told)
        self.assertIs(need_world(left, told), told)
        self.assertIsNone(same_without(drawing, world, left, told, thing))
        return told

    def check_shown(self, drawing, less, thing):
        left = hidden(drawing, thing)
        found = refusal(world_shown, drawing, less, thing)
        if found:
            self.assertIs(found[0], TooGreat)
            return None
        told = world_shown(drawing, less, thing)
        assert_plain(self, told)
        self.assertIs(need_world(drawing, told), told)
        self.assertIsNone(same_without(drawing, told, left, less, thing))
        return told

    def check_both(self, chooser, drawing, thing, **drawn):
        """One way and back, the other way and back: how many of them could be gone."""
        world = some_world(chooser, drawing, **drawn)
        less = self.check_hidden(drawing, world, thing)
        back = less and self.check_shown(drawing, less, thing)
        other = some_world(chooser, hidden(drawing, thing), **drawn)
        more = self.check_shown(drawing, other, thing)
        again = more and self.check_hidden(drawing, more, thing)
        return sum(told is not None for told in (less, back, more, again))

    def test_all_drawings_of_two_things(self):
        chooser = random.Random(43)
        for drawing in all_drawings(2):
            for thing in range(2):
                for least in (0, 1):
                    self.assertEqual(self.check_both(chooser, drawing, thing, least=least, most=3), 4)

    def test_all_drawings_of_three_things(self):
        chooser = random.Random(431)
        found = {}
        for drawing in all_drawings(3):
            for thing in range(3):
                for least in (0, 1):
                    many = self.check_both(chooser, drawing, thing, least=least, most=3)
                    kind = sides(drawing, thing)
                    found[kind] = found.get(kind, 0) + many
        # Without children, with one, with more; causes alike or not; left with one thing or not, where it can be so.
        self.assertEqual({kind for kind in found if found[kind] > 10},
                         {(0, False, False), (0, False, True), (0, True, False), (0, True, True), (1, False, False),
                          (1, False, True), (1, True, False), (1, True, True), (2, False, False), (2, True, False)})

    def test_drawn_drawings_of_four_things(self):
        chooser = random.Random(432)
        found = {}
        for _ in range(220):
            count, arrows, causes = some_drawing(chooser, 4)
            drawing = (count, arrows, causes[:3])
            thing = chooser.randrange(4)
            many = self.check_both(chooser, drawing, thing, least=chooser.choice([0, 1]), most=2)
            kind = sides(drawing, thing)
            found[kind] = found.get(kind, 0) + many
        self.assertGreaterEqual(len([kind for kind in found if found[kind]]), 8)

    def test_values_and_sums_that_are_unlike(self):
        chooser = random.Random(433)
        found = 0
        for _ in range(250):
            count, arrows, causes = some_drawing(chooser, chooser.choice([2, 3]))
            drawing = (count, arrows, causes[:2])
            sizes = tuple(chooser.choice([1, 2, 3]) for _ in range(count))
            numbers = tuple(chooser.choice([1, 2, 3]) for _ in drawing[2])
            for thing in range(count):
                world = some_world(chooser, drawing, sizes, numbers, 0, 3)
                less = self.check_hidden(drawing, world, thing)
                if less:
                    found += 1
                    self.check_shown(drawing, less, thing)
        self.assertGreater(found, 200)

    def test_answers_stay_what_they_were(self):
        """The answers of questions about the others are the same, by the program's own answers."""
        chooser = random.Random(434)
        found = 0
        for _ in range(150):
            drawing = some_drawing(chooser, 4)
            drawing = drawing[:2] + (drawing[2][:2],)
            question = (drawing,) + some_lots(chooser, 4)
            others = further_things(question)
            world = some_world(chooser, drawing, least=1, most=2)
            for thing in others:
                if refusal(world_hidden, drawing, world, thing) is None:
                    found += 1
                    less = world_hidden(drawing, world, thing)
                    self.assertEqual(answer(hidden_all(question, (thing,)), less), answer(question, world))
        self.assertGreater(found, 40)

    def test_many_causes_that_become_alike(self):
        # Those of 0 and 1, of 0, 1, 2, and of 0 and 2 are all of the rest, and what is drawn at 1 besides.
        chooser = random.Random(435)
        drawing = (4, ((1, 2), (1, 3)), ((0, 1), (0, 1, 2), (0, 1, 3), (0, 2, 3), (1, 2), (2, 3)))
        self.assertEqual(hidden(drawing, 1)[2], ((0, 1, 2), (1, 2)))
        for _ in range(6):
            world = some_world(chooser, drawing, (2, 2, 2, 2), (2, 1, 2, 2, 2, 1), 0, 1)
            less = self.check_hidden(drawing, world, 1)
            if less:
                self.assertGreaterEqual(len(less[1][0]), 8)
                self.check_shown(drawing, less, 1)
        for least in (0, 1):
            self.check_shown(drawing, some_world(chooser, hidden(drawing, 1), (2, 2, 2), (3, 2), least, 3), 1)

    def test_the_new_cause_alone_and_beside_an_old_one(self):
        world = a_world(FORK, tables={0: ((1, 2),), 1: ((1, 3), (3, 1)), 2: ((2, 1), (1, 1))})
        less = self.check_hidden(FORK, world, 0)
        self.assertEqual(len(less[1][0]), 3)
        self.check_shown(FORK, less, 0)
        beside = FORK[:2] + (((1, 2),),)
        world = a_world(beside, hidden_weights=((1, 4),), tables={0: ((1, 2),)})
        less = self.check_hidden(beside, world, 0)
        self.assertEqual(len(less[1][0]), 6)
        shown = self.check_shown(beside, less, 0)
        # The cause that was there has the values; the thing tells a single one.
        self.assertEqual((len(shown[1][0]), shown[0][0]), (6, 1))

    def test_noughts_in_the_table_of_the_thing(self):
        # Its least and its greatest value never come.
        world = a_world(FORK, (4, 2, 2), tables={0: ((0, 1, 2, 0),), 1: ((1, 0), (1, 1), (1, 3), (0, 1)),
                                                 2: ((1, 0), (2, 1), (0, 1), (0, 1))})
        self.check_hidden(FORK, world, 0)

    def test_by_name(self):
        world = a_world(EXAMPLE)
        less = world_hidden(drawing=EXAMPLE, world=world, thing=1)
        self.assertIsNone(same_without(EXAMPLE, world, hidden(EXAMPLE, 1), less, 1))
        more = world_shown(drawing=EXAMPLE, world=less, thing=1)
        self.assertIsNone(same_without(EXAMPLE, more, hidden(EXAMPLE, 1), less, 1))


class TooGreatTest(unittest.TestCase):

    def refuse(self, most, function, *parameters):
        assert_refused(self, TooGreat, {"most": most}, function, *parameters)

    def test_values_of_the_new_cause(self):
        for weights, let in [((32, 32), True), ((1, 63), True), ((1, 64), False), ((2, 64), False), ((65, 1), False)]:
            world = a_world(FORK, tables={0: (weights,)})
            if let:
                told = world_hidden(FORK, world, 0)
                self.assertEqual(told[1], ((1,) * 64,))
            else:
                self.refuse(64, world_hidden, FORK, world, 0)
        # With one child there is no such cause, nor without children.
        for arrows in (((0, 1),), ()):
            drawing = (2, arrows, ())
            world_hidden(drawing, a_world(drawing, tables={0: ((1, 64),)}), 0)

    def test_unlike_sums_of_rows(self):
        drawing = (4, ((0, 1), (1, 2), (1, 3)), ())
        for rows, let in [(((1, 3), (2, 4)), 12), (((3, 4), (4, 5)), 63), (((3, 5), (4, 5)), None),
                          (((10 ** 6, 10 ** 6), (1, 1)), None), (((1, 0), (0, 1)), 1)]:
            world = a_world(drawing, tables={1: rows})
            if let:
                self.assertEqual(len(world_hidden(drawing, world, 1)[1][0]), let)
                self.assertIsNone(same_without(drawing, world, hidden(drawing, 1), world_hidden(drawing, world, 1), 1))
            else:
                self.refuse(64, world_hidden, drawing, world, 1)

    def test_a_great_common_multiple(self):
        # Many long sums without a common divisor: that it is above 64 is told soon.
        drawing = (4, ((0, 1), (1, 2), (1, 3)), ())
        rows = tuple((10 ** 6 - at, 10 ** 6 - 7 * at) for at in range(64))
        world = a_world(drawing, (64, 2, 2, 2), tables={1: rows})
        self.refuse(64, world_hidden, drawing, world, 1)

    def test_values_of_causes_that_become_alike(self):
        for numbers, let in [((8, 8), True), ((1, 64), True), ((8, 9), False), ((64, 2), False)]:
            world = a_world(BOTH, (1, 1, 2), tuple((1,) * many for many in numbers))
            if let:
                self.assertEqual(len(world_hidden(BOTH, world, 1)[1][0]), 64)
            else:
                self.refuse(64, world_hidden, BOTH, world, 1)
        # An old one of 16 values and the new one of 4, of 5.
        beside = FORK[:2] + (((1, 2),),)
        for weights, let in [((1, 3), True), ((1, 4), False)]:
            world = a_world(beside, (2, 1, 1), ((1,) * 16,), {0: (weights,)})
            if let:
                self.assertEqual(len(world_hidden(beside, world, 0)[1][0]), 64)
            else:
                self.refuse(64, world_hidden, beside, world, 0)

    def test_rows(self):
        # The new cause has 64 values: 16 * 16 * 64 is just not too much.
        for size, let in [(16, True), (17, False)]:
            world = a_world(FORK, (2, 16, size), tables={0: ((1, 63),)})
            if let:
                told = world_hidden(FORK, world, 0)
                self.assertIs(need_world(hidden(FORK, 0), told), told)
            else:
                self.refuse(16384, world_hidden, FORK, world, 0)
        # The old world has just so many, and the one without the thing fewer.
        drawing = (3, ((0, 1),), ())
        world_hidden(drawing, a_world(drawing, (4, 64, 64)), 0)

    def test_weights_of_causes_that_become_alike(self):
        for pair, let in [(((1, 1000), (1, 1000)), True), (((1, 1001), (1, 1000)), False),
                          (((2, 2000), (2, 2000)), True), (((10 ** 6, 10 ** 6), (10 ** 6, 10 ** 6)), True),
                          (((10 ** 6, 1), (10 ** 6, 1)), False), (((0, 10 ** 6), (0, 10 ** 6)), True)]:
            world = a_world(BOTH, hidden_weights=pair)
            if let:
                told = world_hidden(BOTH, world, 1)
                self.assertIsNone(same_without(BOTH, world, hidden(BOTH, 1), told, 1))
            else:
                self.refuse(10 ** 6, world_hidden, BOTH, world, 1)

    def test_weights_of_tables(self):
        drawing = (2, ((0, 1),), ())
        # 1/N of the first row and the rest of the second one, (1, 0): of N * 1000 one N * 1000 - 1.
        for many, let in [(1000, True), (1001, False), (999, True)]:
            world = a_world(drawing, tables={0: ((1, many - 1),), 1: ((1, 999), (0, 1))})
            above = many * 1000 - 1
            self.assertEqual(gcd(above, many * 1000), 1)
            if let:
                self.assertEqual(world_hidden(drawing, world, 0), ((2,), (), (((1, above),),)))
            else:
                self.refuse(10 ** 6, world_hidden, drawing, world, 0)
        # In its least form it is not too great.
        world = a_world(drawing, tables={0: ((10 ** 6, 10 ** 6),), 1: ((10 ** 6, 0), (0, 10 ** 6))})
        self.assertEqual(world_hidden(drawing, world, 0), ((2,), (), (((1, 1),),)))

    def test_weights_that_a_cause_of_one_thing_leaves(self):
        drawing = (2, (), ((0, 1),))
        for many, let in [(1000, True), (1001, False)]:
            world = a_world(drawing, hidden_weights=((1, many - 1),), tables={1: ((1, 999), (0, 1))})
            if let:
                self.assertEqual(world_hidden(drawing, world, 0)[2], (((1, 999999),),))
            else:
                self.refuse(10 ** 6, world_hidden, drawing, world, 0)

    def test_values_of_a_thing_that_is_shown(self):
        # It tells its parents' values, its causes', and one of its own: 4 * 4 * 4, 4 * 4 * 5.
        drawing = (4, ((0, 1), (1, 2), (1, 3)), ((0, 1),))
        left = hidden(drawing, 1)
        self.assertEqual(left[2], ((0, 1, 2), (1, 2)))
        for own, let in [(4, True), (5, False)]:
            less = a_world(left, (4, 2, 2), ((1,) * 4, (1,) * own))
            if let:
                self.assertEqual(world_shown(drawing, less, 1)[0], (4, 64, 2, 2))
            else:
                self.refuse(64, world_shown, drawing, less, 1)
        # A cause that is left out has a single value, and so has the new one.
        single = (3, ((0, 1), (1, 2)), ((1, 2),))
        for many in (64, 1):
            self.assertEqual(world_shown(single, a_world(hidden(single, 1), (many, 2)), 1)[0], (many, many, 2))

    def test_rows_of_a_world_that_is_shown(self):
        drawing = (3, ((0, 1), (1, 2)), ())
        left = hidden(drawing, 1)
        for size, let in [(4, True), (5, False)]:
            less = a_world(left, (64, size))
            if let:
                self.assertEqual(world_shown(drawing, less, 1)[0], (64, 64, 4))
            else:
                self.refuse(16384, world_shown, drawing, less, 1)

    def test_order_of_these(self):
        # Too many causes, values, rows, too great weights: the earlier one is told.
        pairs = tuple(cause for cause in all_causes(8) if len(cause) == 2 and 0 not in cause)
        many = (10, ((0, 8), (0, 9)), pairs[:20])
        world = a_world(many, (2,) + (1,) * 9, ((1,),) * 20, {0: ((1, 64),)})
        self.refuse(20, world_hidden, many, world, 0)
        fewer = many[:2] + (pairs[:19],)
        self.refuse(64, world_hidden, fewer, a_world(fewer, (2,) + (1,) * 9, ((1,),) * 19, {0: ((1, 64),)}), 0)
        # 65 values, and with 64 other ones too many rows.
        self.refuse(64, world_hidden, FORK, a_world(FORK, (2, 64, 64), tables={0: ((1, 64),)}), 0)
        self.refuse(16384, world_hidden, FORK, a_world(FORK, (2, 64, 64), tables={0: ((1, 63),)}), 0)
        # Too many rows, and causes of too great weights.
        wide = (4, ((1, 2), (1, 3)), ((0, 1), (0, 2, 3)))
        weights = ((1, 10 ** 6), (1, 10 ** 6))
        for sizes, most in [((1, 2, 2, 2), 10 ** 6), ((1, 2, 32, 32), 16384)]:
            self.refuse(most, world_hidden, wide, a_world(wide, sizes, weights, {1: ((1, 31),) * 2}), 1)
        self.refuse(64, world_hidden, wide, a_world(wide, (1, 2, 2, 2), weights, {1: ((1, 64),) * 2}), 1)
        # Shown: the thing's values come ahead of the rows.
        drawing = (3, ((0, 1), (1, 2)), ((0, 1),))
        for size, most in [(33, 64), (32, 16384)]:
            self.refuse(most, world_shown, drawing, a_world(hidden(drawing, 1), (size, 64), ((1, 1),)), 1)

    def test_drawn_ones(self):
        # Whatever is refused is so by one of these.
        chooser = random.Random(436)
        found = set()
        for _ in range(200):
            drawing = some_drawing(chooser, chooser.choice([3, 4, 5]))
            drawing = drawing[:2] + (drawing[2][:3],)
            thing = chooser.randrange(drawing[0])
            most = chooser.choice([3, 30, 1000])
            world = some_world(chooser, drawing, least=0, most=most)
            for function, handed in [(world_hidden, world),
                                     (world_shown, some_world(chooser, hidden(drawing, thing), most=most))]:
                told = refusal(function, drawing, handed, thing)
                found.add(told and (told[0], told[1]["most"]))
        self.assertTrue({None, (TooGreat, 64), (TooGreat, 10 ** 6)} <= found)


class ParametersTest(unittest.TestCase):

    def test_things(self):
        world = a_world(EXAMPLE)
        for thing in NO_INTEGERS + [-1, 3, 10 ** 5000]:
            assert_refused(self, BadParameter, {"value": thing}, world_hidden, EXAMPLE, world, thing)
            assert_refused(self, BadParameter, {"value": thing}, world_shown, EXAMPLE, world, thing)
        single = ((2,), (), (((1, 1),),))
        for function in (world_hidden, world_shown):
            assert_refused(self, BadParameter, {"value": 0}, function, (1, (), ()), single, 0)

    def test_worlds(self):
        less = a_world(hidden(EXAMPLE, 1))
        for world in NO_TUPLES + [(), less[:2], a_world(EXAMPLE)[1:]]:
            assert_refused(self, BadWorld, {"place": ()}, world_hidden, EXAMPLE, world, 1)
            assert_refused(self, BadWorld, {"place": ()}, world_shown, EXAMPLE, world, 1)
        # A world with the thing is none without it, nor the other way.
        assert_refused(self, BadWorld, {"place": (0,)}, world_hidden, EXAMPLE, less, 1)
        assert_refused(self, BadWorld, {"place": (0,)}, world_shown, EXAMPLE, a_world(EXAMPLE), 1)
        wide = ((64, 64, 64), ((1,),), (((1,) * 64,),))
        self.assertEqual(refusal(world_hidden, EXAMPLE, wide, 1), (TooGreat, {"most": 16384}))

    def test_order(self):
        wrong = {"drawing": BAD_DRAWING, "world": BAD_WORLD, "thing": bad_parameter(3)}
        assert_first_told(self, world_hidden, {"drawing": EXAMPLE, "world": a_world(EXAMPLE), "thing": 1}, wrong)
        # Going back, the thing is looked at ahead of the world.
        less = a_world(hidden(EXAMPLE, 1))
        self.assertEqual(refusal(world_shown, BAD_DRAWING[0], None, 9)[0], BadDrawing)
        self.assertEqual(refusal(world_shown, EXAMPLE, None, 9)[0], BadParameter)
        self.assertEqual(refusal(world_shown, EXAMPLE, None, 1)[0], BadWorld)
        self.assertEqual(refusal(world_shown, EXAMPLE, less, 9)[0], BadParameter)
        self.assertIsNone(refusal(world_shown, EXAMPLE, less, 1))
        for function in (world_hidden, world_shown):
            for drawing in NO_TUPLES + [()]:
                assert_refused(self, BadDrawing, {"place": ()}, function, drawing, None, None)

    def test_too_many_causes(self):
        pairs = tuple(cause for cause in all_causes(8) if len(cause) == 2 and 0 not in cause)
        many = (10, ((0, 8), (0, 9)), pairs[:20])
        world = a_world(many, (1,) * 10, ((1,),) * 20)
        assert_refused(self, TooGreat, {"most": 20}, world_hidden, many, world, 0)
        # Behind the world going one way, ahead of it going back.
        assert_refused(self, BadWorld, {"place": ()}, world_hidden, many, None, 0)
        assert_refused(self, TooGreat, {"most": 20}, world_shown, many, None, 0)
        assert_refused(self, BadParameter, {"value": 10}, world_shown, many, None, 10)

    def test_greatest_drawing(self):
        drawing = (10, all_arrows(10), tuple((thing, thing + 1) for thing in range(9)))
        world = a_world(drawing, (1,) * 10, ((1,),) * 9)
        for thing in range(10):
            less = world_hidden(drawing, world, thing)
            self.assertIs(need_world(hidden(drawing, thing), less), less)
            more = world_shown(drawing, less, thing)
            self.assertIs(need_world(drawing, more), more)


if __name__ == "__main__":
    unittest.main()
