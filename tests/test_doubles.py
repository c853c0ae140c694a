"""[33], [34]: two worlds alike in what is watched, unlike in the answer, by plain sums."""

import random
import unittest
from fractions import Fraction

from deedseen.doubles import is_two_worlds, two_worlds
from deedseen.errors import BadHedge, BadQuestion, TooGreat
from deedseen.questions import things_of
from deedseen.worlds import need_world, set_chances
from tests.helping import (EXAMPLE, HOSTILE, NO_TUPLES, all_arrows, all_drawings, assert_first_told, assert_plain,
                           assert_refused, some_world)
from tests.plain import all_hedges, all_questions, plain_answer, plain_watched, ranges, some_hedged

QUESTION = ((2, ((0, 1),), ((0, 1),)), (), (0,), (), (1,))
HEDGE = ((), (0, 1), (1,))
BAD_QUESTION = ((EXAMPLE, (), (0,), (0,), (2,)), BadQuestion, {"place": (3,)})


def plain_two_worlds(question, value):
    """Whether two worlds and a row are as they ought to be; that the worlds are worlds is known."""
    one, other, row = value
    if one[0] != other[0]:
        return False
    chances = plain_watched(question, one)
    if min(chances) == 0 or chances != plain_watched(question, other):
        return False
    told = [plain_answer(question, world)[row] for world in (one, other)]
    return told[0][0] / told[0][1] != told[1][0] / told[1][1]


def greatest_weight(world):
    _, hidden, tables = world
    return max(weight for rows in (hidden,) + tables for weights in rows for weight in weights)


def many_rows(world):
    many = 1
    for size in list(world[0]) + [len(weights) for weights in world[1]]:
        many *= size
    return many


class TwoWorldsTest(unittest.TestCase):

    def compare(self, question, hedge, most=2 ** 10):
        told = two_worlds(question, hedge)
        assert_plain(self, told)
        one, other, row = told
        for world in (one, other):
            self.assertIs(need_world(question[0], world), world)
            self.assertLessEqual(greatest_weight(world), 10 ** 4)
        self.assertIs(is_two_worlds(question, told), True)
        self.assertIs(is_two_worlds(question, (other, one, row)), True)
        if many_rows(one) <= most:
            self.assertIs(plain_two_worlds(question, told), True)
        return told

    def test_all_hedges_of_all_questions_of_two_things(self):
        for drawing in all_drawings(2):
            for question in all_questions(drawing):
                for hedge in all_hedges(question):
                    self.compare(question, hedge)

    def test_all_hedges_of_all_questions_of_three_things(self):
        kinds = {}
        for drawing in all_drawings(3):
            for question in all_questions(drawing):
                for hedge in all_hedges(question):
                    self.compare(question, hedge)
                    kind = (bool(question[1]), bool(question[3]), bool(hedge[0]))
                    kinds[kind] = kinds.get(kind, 0) + 1
        # With something tried, seen, moved: three things let no two of these stand beside SET and ASKED.
        self.assertTrue({(False, False, False), (False, True, False), (True, False, False)} <= set(kinds))

    def test_drawn_questions_of_four_things(self):
        chooser = random.Random(33)
        kinds = set()
        for at in range(160):
            question, hedges = some_hedged(chooser, 4, at % 3 > 0)
            for hedge in chooser.sample(hedges, min(4, len(hedges))):
                self.compare(question, hedge, 256)
                kinds.add((bool(question[1]), bool(question[3]), bool(hedge[0])))
        self.assertGreaterEqual(len(kinds), 5)

    def test_drawn_questions_of_five_things(self):
        chooser = random.Random(331)
        for at in range(60):
            question, hedges = some_hedged(chooser, 5, at % 2 > 0)
            for hedge in chooser.sample(hedges, min(3, len(hedges))):
                self.compare(question, hedge, 128)

    def test_greater_questions_may_ask_for_too_many_rows(self):
        chooser = random.Random(332)
        for count in (6, 7):
            for _ in range(12):
                question, hedges = some_hedged(chooser, count)
                try:
                    self.compare(question, chooser.choice(hedges), 32)
                except TooGreat as error:
                    self.assertEqual(error.most, 16384)

    def test_too_many_rows(self):
        # 9 things are bound together, each by a cause of its own to the next one: 9 bits and 8 coins.
        pairs = tuple((thing, thing + 1) for thing in range(8))
        question = ((9, pairs, pairs), (), (0,), (), (8,))
        hedge = ((), tuple(range(9)), tuple(range(1, 9)))
        assert_refused(self, TooGreat, {"most": 16384}, two_worlds, question, hedge)
        shorter = ((7, pairs[:6], pairs[:6]), (), (0,), (), (6,))
        told = two_worlds(shorter, ((), tuple(range(7)), tuple(range(1, 7))))
        self.assertEqual(many_rows(told[0]), 2 ** 13)
        self.assertIs(is_two_worlds(shorter, told), True)

    def test_one_cause_has_many_coins(self):
        arrows = tuple((thing, 6) for thing in range(6))
        question = ((7, arrows, (tuple(range(7)),)), (), (0,), (), (6,))
        hedge = ((), tuple(range(7)), (1, 2, 3, 4, 5, 6))
        told = self.compare(question, hedge, 0)
        self.assertEqual(len(told[0][1][0]), 64)

    def test_most_things_that_always_do(self):
        # All of four things, of five with nothing seen, are bound together and to what is asked.
        for count, seen in ((4, ()), (4, (1,)), (4, (1, 2)), (5, ())):
            pairs = all_arrows(count)
            question = ((count, pairs, pairs), (), (0,), seen, (count - 1,))
            hedges = all_hedges(question)
            self.assertTrue(hedges)
            for hedge in hedges:
                self.compare(question, hedge, 0)

    def test_roads_from_what_is_seen(self):
        # Nothing asked is at the end of a way: what is seen tells of it by a road.
        seen_end = (4, ((0, 1), (2, 3)), ((0, 1), (1, 2)))
        for drawing, by_hand, seen, asked in [
                (seen_end, (0,), (1,), (3,)), ((3, ((0, 1),), ((0, 1), (1, 2))), (0,), (1,), (2,)),
                ((4, ((0, 2), (1, 2)), ((0, 2), (1, 3))), (0,), (2,), (3,)),
                ((4, ((0, 2), (1, 2), (1, 3)), ((0, 2),)), (0,), (2,), (3,)),
                ((5, ((0, 1), (2, 4)), ((0, 1), (1, 2), (2, 3))), (0,), (1, 4), (3,)),
                ((5, ((0, 1), (2, 4)), ((0, 1), (1, 2), (2, 3))), (0,), (1, 2), (3,)),
                ((5, ((0, 1), (1, 2), (3, 4)), ((0, 1), (2, 3))), (0,), (2,), (4,)),
                ((5, ((0, 1), (1, 2), (3, 4)), ((0, 1), (2, 3))), (0,), (2,), (3,)),
                # Two sides meet at 3, which is not seen itself: it leads to 4.
                ((5, ((0, 2), (1, 3), (3, 4)), ((0, 2), (2, 3))), (0,), (2, 4), (1,)),
                ((6, ((0, 2), (1, 3), (3, 4), (4, 5)), ((0, 2), (2, 3))), (0,), (2, 5), (1,))]:
            question = (drawing, (), by_hand, seen, asked)
            hedges = all_hedges(question)
            self.assertTrue(hedges, question)
            for hedge in hedges:
                self.compare(question, hedge)

    def test_ways_around_what_is_set(self):
        # The short way from 1 to what is asked goes through 2, which is set; so does one to what is seen.
        arrows = ((0, 1), (1, 2), (1, 3), (2, 5), (3, 4), (4, 5))
        for seen, asked in [((), (5,)), ((5,), (4,))]:
            question = ((6, arrows, ((0, 1),)), (), (0, 2), seen, asked)
            hedges = all_hedges(question)
            self.assertIn(((), (0, 1), (1,)), hedges)
            for hedge in hedges:
                self.compare(question, hedge)

    def test_moved_things(self):
        # The thing 1 may be moved. GREAT has it or not.
        lean = ((4, ((0, 1), (0, 2), (1, 2), (2, 3)), ((0, 2),)), (), (0,), (1,), (3,))
        within = ((5, ((0, 1), (0, 2), (1, 3), (2, 3), (3, 4)), ((0, 1), (0, 2), (2, 3))), (), (0,), (1,), (4,))
        found = set()
        for question in (lean, within):
            hedges = all_hedges(question)
            self.assertTrue(hedges)
            for hedge in hedges:
                self.assertEqual(hedge[0], (1,))
                found.add(1 in hedge[1])
                self.compare(question, hedge)
        self.assertEqual(found, {True, False})

    def test_example(self):
        one, other, row = self.compare(QUESTION, HEDGE)
        self.assertEqual(set(plain_watched(QUESTION, one)), {Fraction(3, 8), Fraction(1, 8)})
        self.assertEqual(plain_watched(QUESTION, one), plain_watched(QUESTION, other))
        told = two_worlds(question=QUESTION, hedge=HEDGE)
        self.assertIs(is_two_worlds(question=QUESTION, value=told), True)
        self.assertEqual(set_chances(QUESTION[0], one, ((0, 0),))[:2], ((1, 2), (1, 2)))
        self.assertEqual(set_chances(QUESTION[0], other, ((0, 0),))[:2], ((3, 4), (1, 4)))

    def test_no_hedges(self):
        for hedge in NO_TUPLES + [(), HEDGE[:2], HEDGE + ((),), list(HEDGE), ((), (0, 1), (0, 1)), ((), (1,), (1,)),
                                  ((), (0, 1), (0,)), ((0,), (0, 1), (1,)), ((1,), (0, 1), (1,)), ((), (1, 0), (1,)),
                                  ((), (0, 1), ()), (HOSTILE,) * 3, ((), (0, 1), (True,)), ((), [0, 1], (1,))]:
            assert_refused(self, BadHedge, {"value": hedge}, two_worlds, QUESTION, hedge)
        tried = QUESTION[:1] + ((0,),) + QUESTION[2:]
        assert_refused(self, BadHedge, {"value": HEDGE}, two_worlds, tried, HEDGE)

    def test_order(self):
        assert_first_told(self, two_worlds, {"question": QUESTION, "hedge": HEDGE},
                          {"question": BAD_QUESTION, "hedge": (None, BadHedge, {"value": None})})
        assert_first_told(self, is_two_worlds, {"question": QUESTION, "value": None}, {"question": BAD_QUESTION})


class IsTwoWorldsTest(unittest.TestCase):

    def bent(self, chooser, question, told):
        """Worlds and rows that are like the told ones, but for one place."""
        one, other, row = told
        values = [(one, one, row), (other, other, row)]
        for world in (one, other):
            sizes, hidden, tables = world
            for at, table in enumerate(tables):
                place = chooser.randrange(len(table))
                weights = list(table[place])
                weights[chooser.randrange(len(weights))] += 1
                bent = (sizes, hidden, tables[:at] + (table[:place] + (tuple(weights),) + table[place + 1:],)
                        + tables[at + 1:])
                values += [(one, bent, row), (bent, other, row), (bent, bent, row)]
            for at, weights in enumerate(hidden):
                bent = (sizes, hidden[:at] + ((weights[0] + 1,) + weights[1:],) + hidden[at + 1:], tables)
                values += [(one, bent, row), (bent, other, row)]
        sizes = [one[0][thing] for thing in things_of(question)]
        return values + [(one, other, values_told) for values_told in list(ranges(sizes))[:12]]

    def test_bent_ones(self):
        chooser = random.Random(334)
        found = set()
        for at in range(25):
            question, hedges = some_hedged(chooser, chooser.choice([2, 3, 3]), None if at % 2 else False)
            told = two_worlds(question, chooser.choice(hedges))
            if many_rows(told[0]) > 128:
                continue
            for value in self.bent(chooser, question, told):
                plain = plain_two_worlds(question, value)
                self.assertIs(is_two_worlds(question, value), plain)
                found.add(plain)
        self.assertEqual(found, {True, False})

    def test_drawn_worlds(self):
        chooser = random.Random(335)
        for drawing in all_drawings(2):
            for question in all_questions(drawing):
                one = some_world(chooser, drawing, (2, 2), least=1)
                other = some_world(chooser, drawing, (2, 2), least=1)
                row = (0,) * len(things_of(question))
                for value in [(one, other, row), (one, one, row)]:
                    self.assertIs(is_two_worlds(question, value), plain_two_worlds(question, value))

    def test_made_by_hand(self):
        # 0 is a fair coin; 1 is it, or the hidden cause, or both by chance: watched alike, set unlike.
        moved_by_arrow = ((2, 2), ((1, 1),), (((1, 1), (1, 1)), ((2, 1), (2, 1), (1, 2), (1, 2))))
        moved_by_cause = ((2, 2), ((1, 1),), (((1, 0), (0, 1)), ((2, 1), (1, 2), (2, 1), (1, 2))))
        told = (moved_by_arrow, moved_by_cause, (0, 1))
        self.assertIs(is_two_worlds(QUESTION, told), True)
        # It does not ask for weights up to 10 ** 4.
        great = ((2, 2), ((10 ** 6, 10 ** 6),), moved_by_cause[2])
        self.assertIs(is_two_worlds(QUESTION, (moved_by_arrow, great, (0, 1))), True)
        self.assertIs(is_two_worlds(QUESTION[:1] + ((0,),) + QUESTION[2:], told), False)
        seen = QUESTION[:1] + ((), (), (0,), (1,))
        self.assertIs(is_two_worlds(seen, told), False)

    def test_unlike_in_some_rows_alone(self):
        # The answers are alike for the value 2 of the set thing.
        by_arrow = ((3, 2), ((1, 1),), (((1, 1, 1),) * 2, ((2, 1), (2, 1), (1, 2), (1, 2), (1, 1), (1, 1))))
        tables = (((1, 0, 1), (0, 1, 1)), ((2, 1), (1, 2), (2, 1), (1, 2), (1, 1), (1, 1)))
        by_cause = ((3, 2), ((1, 1),), tables)
        for world in (by_arrow, by_cause):
            need_world(QUESTION[0], world)
        alike = {row: is_two_worlds(QUESTION, (by_arrow, by_cause, row)) for row in ranges((3, 2))}
        plain = {row: plain_two_worlds(QUESTION, (by_arrow, by_cause, row)) for row in ranges((3, 2))}
        self.assertEqual(alike, plain)

    def test_worlds_that_are_not_open(self):
        # The thing 0 is never 1: all that is watched is alike.
        one = ((2, 2), ((1, 1),), (((1, 0), (1, 0)), ((1, 1), (1, 1), (1, 2), (1, 2))))
        other = ((2, 2), ((1, 1),), (((1, 0), (1, 0)), ((1, 1), (1, 1), (2, 1), (2, 1))))
        self.assertEqual(plain_watched(QUESTION, one), plain_watched(QUESTION, other))
        self.assertIs(is_two_worlds(QUESTION, (one, other, (1, 0))), False)

    def test_unlike_sizes(self):
        one, other, row = two_worlds(QUESTION, HEDGE)
        wide = ((2, 3), ((1, 1),), (one[2][0], tuple(weights + (1,) for weights in one[2][1])))
        need_world(QUESTION[0], wide)
        for value in [(one, wide, row), (wide, other, row)]:
            self.assertIs(is_two_worlds(QUESTION, value), False)
        # As many rows, each of the same chance.
        question = ((2, (), ()), (), (), (0,), (1,))
        high = ((2, 3), (), (((1, 1),), ((1, 1, 1),)))
        broad = ((3, 2), (), (((1, 1, 1),), ((1, 1),)))
        self.assertEqual(plain_watched(question, high), plain_watched(question, broad))
        for row in [(0, 0), (1, 1)]:
            self.assertIs(is_two_worlds(question, (high, broad, row)), False)

    def test_rows_of_all_kinds(self):
        one, other, row = two_worlds(QUESTION, HEDGE)
        self.assertEqual(one[0], (2, 2))
        for value in NO_TUPLES + [(), (0,), (0, 0, 0), (0, 2), (2, 0), (-1, 0), (0, -1), [0, 0], (False, 0), (0, True),
                                  (0.0, 0), (0, "0"), (HOSTILE, 0), (0, HOSTILE), (None, None), (0, 10 ** 5000)]:
            self.assertIs(is_two_worlds(QUESTION, (one, other, value)), False)

    def test_values_of_all_kinds(self):
        one, other, row = two_worlds(QUESTION, HEDGE)
        for value in NO_TUPLES + [(), (one, other), (one, other, row, ()), [one, other, row], (HOSTILE,) * 3,
                                  (HOSTILE, other, row), (one, HOSTILE, row), (one, None, row), (None, other, row),
                                  (one, list(other), row), (one, other[:2], row), (row, one, other)]:
            self.assertIs(is_two_worlds(QUESTION, value), False)

    def test_worlds_of_other_drawings(self):
        told = two_worlds(QUESTION, HEDGE)
        for drawing in [(2, (), ((0, 1),)), (2, ((0, 1),), ()), (3, ((0, 1),), ((0, 1),)), (1, (), ())]:
            asked = (drawing[0] - 1,)
            self.assertIs(is_two_worlds((drawing, (), (), (), asked), told), False)

    def test_a_question_that_is_told_has_none(self):
        chooser = random.Random(336)
        question = (EXAMPLE, (), (0,), (), (2,))
        for _ in range(20):
            worlds = [some_world(chooser, EXAMPLE, (2, 2, 2), (2,), 1, 3) for _ in range(2)]
            for row in ranges((2, 2)):
                self.assertIs(is_two_worlds(question, (worlds[0], worlds[1], row)), False)
                self.assertIs(is_two_worlds(question, (worlds[0], worlds[0], row)), False)


if __name__ == "__main__":
    unittest.main()
