"""[23]: answers and what is watched, against plain sums over all rows."""

import random
import unittest
from fractions import Fraction

from deedseen import answers
from deedseen.errors import BadDrawing, BadQuestion, BadWorld, Nought, TooGreat
from deedseen.questions import goal, things_of
from deedseen.worlds import factor, is_open
from tests.helping import (HOSTILE, NO_TUPLES, all_drawings, assert_first_told, assert_plain, assert_refused,
                           some_drawing, some_world)
from tests.plain import all_questions, plain_answer, plain_sums, plain_watched, ranges, some_question
from tests.test_factors import as_fractions

DRAWING = (2, ((0, 1),), ((0, 1),))
WORLD = ((2, 2), ((1, 1),), (((1, 0), (0, 1)), ((1, 0), (0, 1), (0, 1), (1, 0))))


class AnswersTest(unittest.TestCase):

    def compare(self, question, world):
        told = answers.watched(question, world)
        self.assertEqual(as_fractions(self, told), plain_watched(question, world))
        plain = plain_answer(question, world)
        noughts = [row for row, (_, below) in plain.items() if below == 0]
        if noughts:
            assert_refused(self, Nought, {"row": noughts[0]}, answers.answer, question, world)
            return None
        told = as_fractions(self, answers.answer(question, world))
        self.assertEqual(told, [above / below for above, below in plain.values()])
        return told

    def test_all_questions_of_small_drawings(self):
        chooser = random.Random(23)
        for drawing in [(1, (), ())] + all_drawings(2) + all_drawings(3)[::17]:
            for question in all_questions(drawing):
                self.compare(question, some_world(chooser, drawing, hidden=(2,) * min(2, len(drawing[2]))
                                                  + (1,) * (len(drawing[2]) - 2), least=chooser.choice([0, 1])))

    def test_drawn_questions_in_drawn_worlds(self):
        chooser = random.Random(231)
        found = set()
        for count, many in ((2, 80), (3, 200), (4, 120), (5, 40)):
            for _ in range(many):
                question = some_question(chooser, count, 3)
                sizes = tuple(chooser.choice([1, 2, 2, 3]) for _ in range(count))
                least, most = chooser.choice([(0, 1), (0, 3), (1, 5), (1, 10 ** 6 - 1)])
                world = some_world(chooser, question[0], sizes, least=least, most=most)
                told = self.compare(question, world)
                found.add((told is None, is_open(question[0], world, question[1])))
        # In open worlds nothing that is divided by is 0.
        self.assertEqual(found, {(False, True), (False, False), (True, False)})

    def test_the_first_nought(self):
        # The thing 0 is never 1, the thing 1 never 2.
        drawing = (3, ((0, 2),), ())
        world = ((2, 3, 2), (), (((1, 0),), ((1, 1, 0),), ((1, 1), (1, 1))))
        told = {((), (), (0,), (2,)): (1, 0), ((), (), (1,), (2,)): (2, 0), ((), (), (0, 1), (2,)): (0, 2, 0),
                ((), (), (0,), (1, 2)): (1, 0, 0), ((), (), (1,), (0,)): (0, 2), ((), (0,), (1,), (2,)): (0, 2, 0),
                ((), (2,), (0,), (1,)): (1, 0, 0)}
        for lots, row in told.items():
            assert_refused(self, Nought, {"row": row}, answers.answer, (drawing,) + lots, world)
        # Set by hand, they may have these values.
        told = answers.answer((drawing, (), (0, 1), (), (2,)), world)
        self.assertEqual(told, ((1, 2),) * 12)
        self.assertEqual(answers.answer((drawing, (), (), (), (0,)), world), ((1, 1), (0, 1)))

    def test_nothing_set_and_nothing_seen(self):
        told = answers.answer((DRAWING, (), (), (), (0, 1)), WORLD)
        self.assertEqual(told, ((1, 2), (0, 1), (1, 2), (0, 1)))
        self.assertEqual(answers.answer((DRAWING, (), (), (), (1,)), WORLD), ((1, 1), (0, 1)))

    def test_set_things_that_move_nothing(self):
        # A set thing without children has its value in the rows all the same.
        drawing = (3, ((0, 1),), ((0, 2),))
        world = some_world(random.Random(232), drawing, (2, 2, 3), (2,), 1, 9)
        with_it = answers.answer((drawing, (), (0, 2), (), (1,)), world)
        without = answers.answer((drawing, (), (0,), (), (1,)), world)
        rows = list(ranges((2, 2)))
        self.assertEqual(with_it, tuple(without[rows.index(row[:2])] for row in ranges((2, 2, 3))))

    def test_example(self):
        self.assertEqual(answers.answer((DRAWING, (), (0,), (), (1,)), WORLD), ((1, 2),) * 4)
        self.assertEqual(answers.answer((DRAWING, (), (), (0,), (1,)), WORLD), ((1, 1), (0, 1), (1, 1), (0, 1)))
        named = {"question": (DRAWING, (), (0,), (), (1,)), "world": WORLD}
        self.assertEqual(answers.watched(**named), ((1, 2), (0, 1), (1, 2), (0, 1)))
        self.assertEqual(answers.answer(**named), ((1, 2),) * 4)
        self.assertEqual(answers.watched((DRAWING, (0,), (0,), (), (1,)), WORLD), ((1, 2),) * 4)

    def test_many_rows(self):
        arrows = tuple((thing, thing + 1) for thing in range(9))
        world = ((2,) * 10, ((1, 2), (1, 3), (1, 4), (1, 5)), (((1, 2),) * 16,) + (((3, 1), (1, 3)),) * 9)
        drawing = (10, arrows, ())
        told = answers.answer((drawing, (), (0,), (), tuple(range(1, 10))), (world[0], (), (((1, 2),),) + world[2][1:]))
        self.assertEqual(len(told), 1024)
        for row, chance in zip(ranges((2,) * 10), told):
            turns = sum(one != other for one, other in zip(row, row[1:]))
            self.assertEqual(Fraction(*chance), Fraction(3 ** (9 - turns), 4 ** 9))


class FactsTest(unittest.TestCase):

    def open_questions(self, seed, many):
        chooser = random.Random(seed)
        for _ in range(many):
            question = some_question(chooser, chooser.choice([2, 3, 4]), 2)
            yield question, some_world(chooser, question[0], least=1)

    def test_together_1(self):
        for question, world in self.open_questions(1, 150):
            _, _, by_hand, seen, _ = question
            things = things_of(question)
            told = as_fractions(self, answers.answer(question, world))
            sums = plain_sums([world[0][thing] for thing in things], told,
                              [place for place, thing in enumerate(things) if thing in by_hand + seen])
            self.assertEqual(set(sums.values()), {1})

    def test_all_that_is_set_is_tried(self):
        # Then what is watched alone gives the answer.
        for question, world in self.open_questions(2, 100):
            drawing, _, by_hand, seen, asked = question
            question = (drawing, by_hand, by_hand, seen, asked)
            told = as_fractions(self, answers.watched(question, world))
            some = plain_sums(world[0], told, things_of(question))
            whole = plain_sums(world[0], told, sorted(by_hand + seen))
            given = [place for place, thing in enumerate(things_of(question)) if thing in by_hand + seen]
            plain = [number / whole[tuple(row[place] for place in given)] for row, number in some.items()]
            self.assertEqual(as_fractions(self, answers.answer(question, world)), plain)

    def test_goal_alone(self):
        for question, world in self.open_questions(3, 100):
            drawing, _, by_hand, seen, asked = question
            lot = goal(question, ())
            told = as_fractions(self, factor(drawing, world, lot))
            # Things outside of GOAL and of SET have no part: any of their values will do.
            sizes = [world[0][thing] if thing in by_hand + lot else 1 for thing in range(drawing[0])]
            kept = [number for row, number in zip(ranges(world[0]), told)
                    if all(value < size for value, size in zip(row, sizes))]
            some, whole = plain_sums(sizes, kept, things_of(question)), plain_sums(sizes, kept, sorted(by_hand + seen))
            given = [place for place, thing in enumerate(things_of(question)) if thing in by_hand + seen]
            plain = [number / whole[tuple(row[place] for place in given)] for row, number in some.items()]
            self.assertEqual(as_fractions(self, answers.answer(question, world)), plain)

    def test_set_things_that_lead_nowhere_asked(self):
        chooser = random.Random(4)
        for _ in range(40):
            drawing = some_drawing(chooser, 4)
            drawing = (4, tuple(arrow for arrow in drawing[1] if arrow[0] != 1), drawing[2][:2])
            world = some_world(chooser, drawing, least=1)
            alone = answers.answer((drawing, (), (), (), (3,)), world)
            told = answers.answer((drawing, (), (1,), (), (3,)), world)
            self.assertEqual(told, alone * world[0][1])


class ParametersTest(unittest.TestCase):

    FUNCTIONS = (answers.answer, answers.watched)

    def test_order(self):
        right = {"question": (DRAWING, (), (0,), (), (1,)), "world": WORLD}
        wrong = {"question": ((DRAWING, (), (0,), (0,), (1,)), BadQuestion, {"place": (3,)}),
                 "world": ((WORLD[0], (), ()), BadWorld, {"place": (1,)})}
        for function in self.FUNCTIONS:
            assert_first_told(self, function, right, wrong)

    def test_wrong_questions(self):
        for function in self.FUNCTIONS:
            for question in NO_TUPLES + [(), (DRAWING, (), (), ())]:
                assert_refused(self, BadQuestion, {"place": ()}, function, question, WORLD)
            assert_refused(self, BadDrawing, {"place": (0,)}, function, ((0, (), ()), (), (), (), ()), WORLD)
            assert_refused(self, BadQuestion, {"place": (4,)}, function, (DRAWING, (), (0,), (), ()), WORLD)
            assert_refused(self, BadQuestion, {"place": (1,)}, function, (DRAWING, (1,), (0,), (), (1,)), WORLD)

    def test_wrong_worlds(self):
        question = (DRAWING, (), (0,), (), (1,))
        for function in self.FUNCTIONS:
            for world in NO_TUPLES + [(), WORLD[:2]]:
                assert_refused(self, BadWorld, {"place": ()}, function, question, world)
            for world, place in [((HOSTILE,) * 3, (0,)), (((2, 65),) + WORLD[1:], (0,)), (WORLD[:2] + ((),), (2,)),
                                 (WORLD[:2] + (WORLD[2][:1] + (((1, 0),),),), (2, 1)),
                                 (WORLD[:2] + (WORLD[2][:1] + (((0, 0),) * 4,),), (2, 1, 0))]:
                assert_refused(self, BadWorld, {"place": place}, function, question, world)
            great = ((64, 64), ((1,) * 5,), None)
            assert_refused(self, TooGreat, {"most": 16384}, function, question, great)

    def test_questions_of_other_drawings(self):
        for function in self.FUNCTIONS:
            assert_refused(self, BadWorld, {"place": (0,)}, function, ((3, (), ()), (), (), (), (1,)), WORLD)
            assert_refused(self, BadWorld, {"place": (1,)}, function, ((2, (), ()), (), (), (), (1,)), WORLD)


if __name__ == "__main__":
    unittest.main()
