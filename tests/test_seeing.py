"""[35], [36]: what may be moved, and what is told with more seen."""

import random
import unittest
from itertools import permutations

from deedseen import seeing
from deedseen.checking import may_move
from deedseen.errors import BadParameter, BadQuestion, NoRow
from deedseen.questions import need_question, things_of
from deedseen.solving import solve
from tests.helping import (EXAMPLE, HOSTILE, NO_INTEGERS, NO_TUPLES, all_arrows, assert_first_told, assert_plain,
                           assert_refused, bad_parameter, some_world, subsets)
from tests.plain import all_moves, is_whole, plain_answer, plain_watched, some_hedged, some_question
from tests.plain_rules import further_things, less, lot_of, plain_least_road, plain_told, small_questions

BAD_QUESTION = ((EXAMPLE, (), (0,), (0,), (2,)), BadQuestion, {"place": (3,)})
FURTHER = ((3, ((0, 1),), ((0, 2), (1, 2))), (), (0,), (), (1,))
ALL_MOVED = ((3, ((0, 1), (0, 2), (1, 2)), ()), (), (1,), (0,), (2,))


class MovesTest(unittest.TestCase):

    def compare(self, question):
        """All that can be told of the moves of a question; its moves."""
        moves = all_moves(question)
        told = seeing.moved_all(question)
        assert_plain(self, told)
        self.assertEqual({tuple(sorted(moved)) for moved in moves if is_whole(question, moved)}, {told})
        drawing, tried, by_hand, seen, asked = question
        for some in subsets(seen):
            for moved in permutations(some):
                if moved in moves:
                    rest = tuple(thing for thing in seen if thing not in moved)
                    there = seeing.moved_question(question, moved)
                    self.assertEqual(there, (drawing, tried, lot_of(by_hand, moved), rest, asked))
                    self.assertIs(need_question(there), there)
                else:
                    assert_refused(self, BadParameter, {"value": moved}, seeing.moved_question, question, moved)
        return moves

    def compare_answers(self, chooser, question, moves, least=1):
        """In an open world the answers are the same, by plain sums."""
        world = some_world(chooser, question[0], least=least)
        if min(plain_watched(question, world)) == 0:
            return False
        told = {row: above / below for row, (above, below) in plain_answer(question, world).items()}
        for moved in moves:
            there = plain_answer(seeing.moved_question(question, moved), world)
            self.assertEqual({row: above / below for row, (above, below) in there.items()}, told)
        return True

    def test_all_small_questions(self):
        chooser = random.Random(35)
        many = 0
        for question in small_questions():
            moves = self.compare(question)
            if len(moves) > 1 and (not question[1] or chooser.random() < 0.2):
                many += 1
                self.compare_answers(chooser, question, moves[1:])
        self.assertGreater(many, 300)

    def test_drawn_questions_of_four_and_five_things(self):
        chooser = random.Random(351)
        found = 0
        for at in range(600):
            question = some_question(chooser, 4 if at % 4 else 5, 3)
            moves = self.compare(question)
            if len(moves) > 1:
                found += self.compare_answers(chooser, question, moves[1:])
        self.assertGreater(found, 60)

    def test_worlds_that_are_open_but_not_positive(self):
        # What is tried may be anything: its own table may have noughts.
        chooser = random.Random(352)
        found = 0
        for question in small_questions():
            if question[1] and question[3] and chooser.random() < 0.4:
                moves = all_moves(question)
                if len(moves) > 1:
                    found += self.compare_answers(chooser, question, moves[1:], 0)
        self.assertGreater(found, 30)

    def test_example(self):
        self.assertEqual(seeing.moved_all(question=ALL_MOVED), (0,))
        moved = seeing.moved_question(question=ALL_MOVED, moved=(0,))
        self.assertEqual(moved, (ALL_MOVED[0], (), (0, 1), (), (2,)))
        self.assertEqual(solve(moved)[0], "told")
        bound = ((3, ((0, 1), (0, 2), (1, 2)), ((0, 2),)),) + ALL_MOVED[1:]
        self.assertEqual(seeing.moved_all(bound), ())
        self.assertEqual(seeing.back_road(question=bound, thing=0), ((0, 2), (0,)))
        assert_refused(self, NoRow, {}, seeing.back_road, ALL_MOVED, 0)

    def test_all_orders_of_many_moves(self):
        question = ((5, ((0, 4), (1, 4), (2, 4), (3, 4)), ()), (), (), (0, 1, 2, 3), (4,))
        for moved in permutations((0, 1, 2, 3)):
            self.assertEqual(seeing.moved_question(question, moved), (question[0], (), (0, 1, 2, 3), (), (4,)))
        self.assertEqual(seeing.moved_all(question), (0, 1, 2, 3))

    def test_one_behind_another(self):
        question = ((4, ((1, 3),), ((0, 1), (1, 2))), (), (), (0, 1), (3,))
        self.compare(question)
        self.assertEqual(seeing.moved_question(question, (1, 0))[2], (0, 1))
        # The thing 0 may be moved behind 1 alone, which may not be moved itself.
        bound = ((4, ((1, 3),), ((0, 1), (1, 3))), (), (), (0, 1), (3,))
        self.assertEqual(seeing.moved_all(bound), ())
        for moved in [(0,), (1,), (1, 0), (0, 1)]:
            assert_refused(self, BadParameter, {"value": moved}, seeing.moved_question, bound, moved)

    def test_the_place_of_what_is_moved(self):
        question = ((4, ((0, 1), (0, 3), (1, 3), (2, 3)), ()), (1,), (1,), (0, 2), (3,))
        self.assertEqual(seeing.moved_question(question, (2, 0)), (question[0], (1,), (0, 1, 2), (), (3,)))
        self.assertEqual(seeing.moved_question(question, ()), question)

    def test_values_of_all_kinds(self):
        question = ((5, ((0, 4), (1, 4), (2, 4)), ()), (), (3,), (0, 1, 2), (4,))
        self.assertEqual(seeing.moved_all(question), (0, 1, 2))
        for moved in NO_TUPLES + [(3,), (4,), (5,), (-1,), (0, 0), (0, 1, 0), (1, 2, 3), (True,), (0, True), (0.0,),
                                  ("0",), (HOSTILE,), (0, HOSTILE), [0], ((0,),), (None,), tuple(range(1000))]:
            assert_refused(self, BadParameter, {"value": moved}, seeing.moved_question, question, moved)

    def test_order(self):
        assert_first_told(self, seeing.moved_question, {"question": ALL_MOVED, "moved": (0,)},
                          {"question": BAD_QUESTION, "moved": bad_parameter((2,))})
        assert_first_told(self, seeing.moved_all, {"question": ALL_MOVED}, {"question": BAD_QUESTION})


class BackRoadTest(unittest.TestCase):

    def compare(self, question):
        drawing, _, by_hand, seen, asked = question
        for thing in seen:
            known = less(lot_of(by_hand, seen), thing)
            plain = plain_least_road(drawing, by_hand, (thing,), thing, asked, known)
            self.assertIs(may_move(question, (), thing), plain is None)
            if plain is None:
                assert_refused(self, NoRow, {}, seeing.back_road, question, thing)
            else:
                told = seeing.back_road(question, thing)
                self.assertEqual(told, plain)
                assert_plain(self, told)

    def test_all_small_questions(self):
        for question in small_questions():
            if not question[1]:
                self.compare(question)

    def test_drawn_questions(self):
        chooser = random.Random(353)
        for count, many in ((4, 250), (5, 150), (6, 40)):
            for _ in range(many):
                self.compare(some_question(chooser, count, 4))

    def test_things_of_no_kind(self):
        question = ((5, ((0, 1), (1, 2)), ((1, 4), (2, 4))), (), (0,), (1, 2), (4,))
        for thing in NO_INTEGERS + [0, 3, 4, 5, -1, 10 ** 5000]:
            assert_refused(self, BadParameter, {"value": thing}, seeing.back_road, question, thing)

    def test_order(self):
        question = ((3, ((0, 1),), ((1, 2),)), (), (), (1,), (2,))
        assert_first_told(self, seeing.back_road, {"question": question, "thing": 1},
                          {"question": BAD_QUESTION, "thing": bad_parameter(2)})


class MoreSeenTest(unittest.TestCase):

    def compare(self, question):
        drawing, tried, by_hand, seen, asked = question
        lots_told = []
        for more in subsets(further_things(question)):
            told = plain_told((drawing, tried, by_hand, lot_of(seen, more), asked))
            self.assertIs(seeing.told_with(question, more), told)
            if told:
                lots_told.append(more)
        if lots_told:
            self.assertEqual(seeing.least_seen(question), min(lots_told, key=lambda more: (len(more), more)))
        else:
            assert_refused(self, NoRow, {}, seeing.least_seen, question)
        return lots_told

    def test_all_small_questions(self):
        found = set()
        for question in small_questions():
            lots_told = self.compare(question)
            found.add((bool(lots_told), () in lots_told, len(lots_told) == 2 ** len(further_things(question))))
        # Told by no lot, with more seen alone, with less seen alone, whatever is seen.
        self.assertEqual(found, {(False, False, False), (True, False, False), (True, True, False), (True, True, True)})

    def test_drawn_questions_of_four_and_five_things(self):
        chooser = random.Random(36)
        for at in range(120):
            question = some_hedged(chooser, 4 + at % 2)[0] if at % 3 else some_question(chooser, 4 + at % 2)
            self.compare(question)

    def test_told_with_more_alone(self):
        # The thing 1 is bound to 0, but 2 hangs on 1 alone: seen, it tells.
        bound = ((3, ((0, 1), (1, 2)), ((0, 1),)), (), (0,), (), (2,))
        self.assertIs(seeing.told_with(bound, ()), False)
        self.assertIs(seeing.told_with(bound, (1,)), True)
        self.assertEqual(seeing.least_seen(bound), (1,))
        both = ((5, ((0, 4), (1, 2), (1, 3), (2, 3), (2, 4), (3, 4)), ((0, 1), (0, 3), (2, 4))), (), (1,), (3,), (4,))
        self.assertEqual(self.compare(both), [(0, 2)])
        one = ((5, ((0, 1), (1, 2), (1, 4), (2, 3), (2, 4)), ((0, 2, 4), (1, 2), (2, 4))), (), (0, 4), (1,), (3,))
        self.compare(one)
        self.assertEqual(seeing.least_seen(one), (2,))

    def test_told_but_not_with_more_seen(self):
        self.assertIs(seeing.told_with(question=FURTHER, more=()), True)
        self.assertIs(seeing.told_with(question=FURTHER, more=(2,)), False)
        self.assertEqual(seeing.least_seen(question=FURTHER), ())

    def test_example(self):
        self.assertIs(seeing.told_with(ALL_MOVED, ()), True)
        self.assertEqual(seeing.least_seen(ALL_MOVED), ())

    def test_nothing_tells(self):
        question = ((3, ((0, 1),), ((0, 1),)), (), (0,), (), (1,))
        assert_refused(self, NoRow, {}, seeing.least_seen, question)
        assert_refused(self, NoRow, {}, seeing.least_seen, ((2, ((0, 1),), ((0, 1),)), (), (0,), (), (1,)))

    def test_ten_things(self):
        pairs = tuple((thing, thing + 1) for thing in range(9))
        question = ((10, all_arrows(10), pairs), (), (0,), (), (1,))
        assert_refused(self, NoRow, {}, seeing.least_seen, question)
        self.assertEqual(seeing.least_seen(((10, pairs, ()), (), (0,), (), (9,))), ())

    def test_no_further_things(self):
        question = ((5, ((0, 1),), ()), (), (0,), (1,), (2,))
        self.assertEqual(things_of(question), (0, 1, 2))
        for more in [(), (3,), (4,), (3, 4)]:
            self.assertIs(seeing.told_with(question, more), True)
        for more in NO_TUPLES + [(0,), (1,), (2,), (0, 3), (4, 3), (3, 3), (5,), (-1,), (3, 5), (True,), (3.0,), ("3",),
                                 (HOSTILE,), (3, HOSTILE), [3], ((3,),), (3, 4, 10 ** 5000), tuple(range(1000))]:
            assert_refused(self, BadParameter, {"value": more}, seeing.told_with, question, more)
        true = ((3, (), ()), (), (), (), (2,))
        assert_refused(self, BadParameter, {"value": (True,)}, seeing.told_with, true, (True,))

    def test_order(self):
        assert_first_told(self, seeing.told_with, {"question": FURTHER, "more": (2,)},
                          {"question": BAD_QUESTION, "more": bad_parameter((0,))})
        assert_first_told(self, seeing.least_seen, {"question": FURTHER}, {"question": BAD_QUESTION})
        for function in (seeing.moved_all, seeing.least_seen):
            for question in NO_TUPLES + [()]:
                assert_refused(self, BadQuestion, {"place": ()}, function, question)


class AllQuestionsTest(unittest.TestCase):

    def test_what_is_moved_does_not_hang_on_what_is_tried(self):
        for question in small_questions():
            untried = question[:1] + ((),) + question[2:]
            self.assertEqual(seeing.moved_all(question), seeing.moved_all(untried))


if __name__ == "__main__":
    unittest.main()
