"""[4], [22]: questions, their things, and GOAL."""

import random
import unittest
from itertools import permutations, product

from deedseen import questions
from deedseen.errors import BadDrawing, BadParameter, BadQuestion
from tests.helping import (EXAMPLE, HOSTILE, NO_TUPLES, all_drawings, assert_first_told, assert_plain, assert_refused,
                           bad_parameter, lots, some_drawing, some_of, subsets)
from tests.plain import all_questions, plain_goal, some_question

NO_LOTS = NO_TUPLES + [(1, 0), (0, 0), (3,), (-1,), (True,), (0, True), (0.0,), ("0",), (HOSTILE,), [0], ((0,),)]


class NeedQuestionTest(unittest.TestCase):

    def refused(self, question, place):
        assert_refused(self, BadQuestion, {"place": place}, questions.need_question, question)

    def test_returns_what_it_checks(self):
        for count in (1, 2, 3):
            for question in all_questions(some_drawing(random.Random(count), count)):
                self.assertIs(questions.need_question(question), question)
        question = (EXAMPLE, (), (0,), (), (2,))
        self.assertIs(questions.need_question(question=question), question)

    def test_all_lots_of_a_small_drawing(self):
        right = set(all_questions((2, (), ())))
        for lots_told in product(lots(2), repeat=4):
            question = ((2, (), ()),) + lots_told
            if question in right:
                self.assertIs(questions.need_question(question), question)
                continue
            tried, by_hand, seen, asked = map(set, lots_told)
            if not asked:
                place = 4
            elif not tried <= by_hand:
                place = 1
            else:
                place = 3 if seen & by_hand else 4
            self.refused(question, (place,))

    def test_no_tuple_of_five(self):
        for question in NO_TUPLES + [(), (EXAMPLE,), (EXAMPLE, (), (), ()), (EXAMPLE, (), (), (), (1,), ()),
                                     [EXAMPLE, (), (), (), (1,)]]:
            self.refused(question, ())

    def test_drawings(self):
        for drawing, place in [(None, ()), ((0, (), ()), (0,)), ((3, ((1, 0),), ()), (1, 0)),
                               ((3, (), ((0, 1), (0, 1))), (2, 1)), (HOSTILE, ())]:
            assert_refused(self, BadDrawing, {"place": place}, questions.need_question, (drawing, 0, 0, 0, 0))

    def test_no_lots(self):
        right = (EXAMPLE, (0,), (0,), (1,), (2,))
        for value in NO_LOTS:
            for place in (1, 2, 3, 4):
                self.refused(right[:place] + (value,) + right[place + 1:], (place,))
        self.refused(right[:4] + ((),), (4,))

    def test_the_first_wrong_lot_is_told(self):
        for wrong in subsets((1, 2, 3, 4)):
            question = [EXAMPLE, (0,), (0,), (1,), (2,)]
            for place in wrong:
                question[place] = () if place == 4 else (3,)
            if wrong:
                self.refused(tuple(question), (wrong[0],))

    def test_no_lot_comes_ahead_of_what_is_in_two(self):
        self.refused((EXAMPLE, (1,), (0,), (0,), ()), (4,))
        self.refused((EXAMPLE, (1,), (0,), [0], (2,)), (3,))
        self.refused((EXAMPLE, (1,), (0,), (0,), (0,)), (1,))
        self.refused((EXAMPLE, (), (0,), (0,), (0,)), (3,))
        self.refused((EXAMPLE, (), (0,), (1,), (0,)), (4,))
        self.refused((EXAMPLE, (), (0,), (1,), (1, 2)), (4,))
        self.refused((EXAMPLE, (0, 1), (0,), (1,), (2,)), (1,))


class ThingsTest(unittest.TestCase):

    def test_things(self):
        for question in all_questions(EXAMPLE):
            told = questions.things_of(question)
            self.assertEqual(told, tuple(sorted(question[2] + question[3] + question[4])))
            assert_plain(self, told)
        self.assertEqual(questions.things_of(question=(EXAMPLE, (), (2,), (0,), (1,))), (0, 1, 2))

    def test_refuses(self):
        assert_refused(self, BadQuestion, {"place": (4,)}, questions.things_of, (EXAMPLE, (), (), (), ()))
        assert_refused(self, BadDrawing, {"place": (0,)}, questions.things_of, ((11, (), ()), (), (), (), ()))


class GoalTest(unittest.TestCase):

    def compare(self, question):
        count, arrows, _ = question[0]
        for moved in subsets(question[3]):
            told = questions.goal(question, moved)
            self.assertEqual(told, plain_goal(question, moved))
            assert_plain(self, told)
            for turned in permutations(moved):
                self.assertEqual(questions.goal(question, turned), told)
            # All of ASKED, what is left of SEEN, and each parent that is not set.
            shut = set(question[2]) | set(moved)
            self.assertLessEqual(set(question[4]) | set(question[3]) - shut, set(told))
            for start, end in arrows:
                self.assertTrue(end not in told or start in told or start in shut)

    def test_all_questions_of_small_drawings(self):
        for drawing in [(1, (), ())] + all_drawings(2) + all_drawings(3)[::16]:
            for question in all_questions(drawing):
                self.compare(question)

    def test_questions_of_up_to_ten_things(self):
        chooser = random.Random(22)
        for count in range(4, 11):
            for _ in range(8):
                question = some_question(chooser, count)
                moved = some_of(chooser, question[3])
                self.assertEqual(questions.goal(question, moved), plain_goal(question, moved))
                self.assertEqual(questions.goal(question, moved[::-1]), plain_goal(question, moved))

    def test_example(self):
        question = (EXAMPLE, (), (0,), (), (2,))
        self.assertEqual(questions.goal(question, ()), (1, 2))
        self.assertEqual(questions.goal(question=(EXAMPLE, (), (), (1,), (2,)), moved=(1,)), (2,))
        self.assertEqual(questions.goal((EXAMPLE, (), (), (1,), (2,)), ()), (0, 1, 2))

    def test_no_moves(self):
        question = ((5, ((0, 1), (1, 2)), ()), (), (0,), (1, 2, 3), (4,))
        for moved in NO_TUPLES + [(0,), (4,), (5,), (-1,), (1, 1), (1, 2, 1), (1, 2, 3, 1), (True,), (2, True), (1.0,),
                                  ("1",), (HOSTILE,), [1], ((1,),), (1, 2, 3, 4), tuple(range(1000))]:
            assert_refused(self, BadParameter, {"value": moved}, questions.goal, question, moved)
        assert_refused(self, BadParameter, {"value": (1,)}, questions.goal, (EXAMPLE, (), (), (), (2,)), (1,))

    def test_order(self):
        bad_question = ((EXAMPLE, (), (0,), (0,), (2,)), BadQuestion, {"place": (3,)})
        assert_first_told(self, questions.goal, {"question": (EXAMPLE, (), (0,), (1,), (2,)), "moved": (1,)},
                          {"question": bad_question, "moved": bad_parameter((0,))})


if __name__ == "__main__":
    unittest.main()
