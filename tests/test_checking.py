"""[25], [26]: the checker of moves, papers and hedges, against second, plain ways."""

import random
import unittest
from itertools import permutations

from deedseen import checking
from deedseen.errors import BadParameter, BadQuestion
from deedseen.roads import shut
from tests.helping import (EXAMPLE, HOSTILE, NO_INTEGERS, NO_TUPLES, all_arrows, all_causes, all_drawings,
                           assert_first_told, assert_refused, bad_parameter, lots, some_drawing, subsets)
from tests.plain import (all_hedges, all_moves, all_questions, is_whole, plain_goal, plain_is_great, plain_is_paper,
                         plain_may_move, plain_paper, plain_rooms, some_hedged, some_question)
from tests.test_steps import bent_steps

QUESTION = (EXAMPLE, (), (0,), (), (2,))
STEPS = (("watched",), ("part", 0, (1,)), ("part", 0, (0, 2)), ("sum", 2, (2,)), ("join", (1, 3)))
HARDER = ((3, ((0, 1), (0, 2), (1, 2)), ((0, 2),)), (), (0,), (), (2,))
BAD_QUESTION = ((EXAMPLE, (), (0,), (0,), (2,)), BadQuestion, {"place": (3,)})


def drawings_of_three():
    return [drawing for drawing in all_drawings(3) if len(drawing[2]) <= 2]


class MayMoveTest(unittest.TestCase):

    def compare(self, question, some=None):
        for moved in subsets(question[3]) if some is None else some:
            for thing in question[3]:
                if thing not in moved:
                    told = checking.may_move(question, moved, thing)
                    self.assertIs(told, plain_may_move(question, moved, thing))
                    self.assertIs(checking.may_move(question, moved[::-1], thing), told)

    def test_all_questions_of_drawings_of_up_to_three_things(self):
        for drawing in [(1, (), ())] + all_drawings(2) + drawings_of_three():
            for question in all_questions(drawing):
                self.compare(question)

    def test_all_questions_of_drawings_of_four_things(self):
        chooser = random.Random(25)
        drawings = [some_drawing(chooser, 4) for _ in range(10)]
        drawings.append((4, all_arrows(4), ((0, 3),)))
        drawings.append((4, (), all_causes(4)[:6]))
        for drawing in drawings:
            for question in all_questions(drawing):
                self.compare(question)

    def test_greater_questions(self):
        chooser = random.Random(251)
        for _ in range(150):
            question = some_question(chooser, chooser.choice([5, 6, 7]))
            moved = tuple(thing for thing in question[3] if chooser.random() < 0.5)
            self.compare(question, [(), moved, question[3][:-1]])

    def test_by_the_words(self):
        chooser = random.Random(252)
        for _ in range(300):
            question = some_question(chooser, 4)
            drawing, _, by_hand, seen, asked = question
            for moved in subsets(seen):
                for thing in seen:
                    if thing not in moved:
                        known = tuple(sorted(set(by_hand + seen) - {thing}))
                        over = tuple(sorted(by_hand + moved))
                        self.assertIs(checking.may_move(question, moved, thing),
                                      shut(drawing, over, (thing,), thing, asked, known))

    def test_example(self):
        arrows = ((0, 1), (0, 2), (1, 2))
        question = ((3, arrows, ()), (), (1,), (0,), (2,))
        self.assertIs(checking.may_move(question=question, moved=(), thing=0), True)
        self.assertIs(checking.may_move(((3, arrows, ((0, 2),)), (), (1,), (0,), (2,)), (), 0), False)

    def test_one_behind_another(self):
        # The thing 0 is bound to 3 by way of 1 alone: into 1, while it is not moved, all may point.
        question = ((4, ((1, 3),), ((0, 1), (1, 3))), (), (), (0, 1), (3,))
        told = {(moved, thing): checking.may_move(question, moved, thing)
                for moved, thing in [((), 0), ((), 1), ((1,), 0), ((0,), 1)]}
        self.assertEqual(told, {((), 0): False, ((), 1): False, ((1,), 0): True, ((0,), 1): False})

    def test_no_moved_tuples(self):
        question = ((5, ((0, 1), (1, 2)), ()), (), (0,), (1, 2, 3), (4,))
        for moved in NO_TUPLES + [(0,), (4,), (5,), (-1,), (1, 1), (1, 2, 1), (True,), (2, True), (1.0,), ("1",),
                                  (HOSTILE,), [1], ((1,),), (1, 2, 3, 4), (1, 2, 3, 3), tuple(range(1000))]:
            assert_refused(self, BadParameter, {"value": moved}, checking.may_move, question, moved, 3)

    def test_no_things(self):
        question = ((5, ((0, 1), (1, 2)), ()), (), (0,), (1, 2, 3), (4,))
        for thing in NO_INTEGERS + [0, 4, 5, -1, 10 ** 5000, 1, 2]:
            assert_refused(self, BadParameter, {"value": thing}, checking.may_move, question, (2, 1), thing)
        for moved in permutations((1, 2, 3)):
            for thing in (1, 2, 3):
                assert_refused(self, BadParameter, {"value": thing}, checking.may_move, question, moved, thing)
        assert_refused(self, BadParameter, {"value": 1}, checking.may_move, QUESTION, (), 1)

    def test_order(self):
        right = {"question": (EXAMPLE, (), (), (0, 1), (2,)), "moved": (0,), "thing": 1}
        assert_first_told(self, checking.may_move, right,
                          {"question": BAD_QUESTION, "moved": bad_parameter((2,)), "thing": bad_parameter(2)})


class PaperTest(unittest.TestCase):

    def compare(self, question, paper):
        told = checking.is_paper(question, paper)
        self.assertIs(told, plain_is_paper(question, paper))
        return told

    def bend(self, chooser, question, paper):
        moved, steps = paper
        count = question[0][0]
        for bent in bent_steps(chooser, steps, count):
            self.compare(question, (moved, bent))
        for at in range(len(steps)):
            self.compare(question, (moved, steps[:at] + steps[at + 1:]))
            self.compare(question, (moved, steps + (steps[at],)))
            self.compare(question, (moved, steps[:at] + (("watched",),) + steps[at:]))
        # One step more that names the last one: its lot is the same one.
        self.assertTrue(self.compare(question, (moved, steps + (("join", (len(steps) - 1,)),))))
        for some in subsets(range(count)):
            for turned in permutations(some):
                if set(turned) <= set(question[3]):
                    self.compare(question, (turned, steps))
                else:
                    self.assertIs(checking.is_paper(question, (turned, steps)), False)

    def test_papers_and_bent_ones(self):
        chooser = random.Random(26)
        many = 0
        for _ in range(150):
            question = some_question(chooser, chooser.choice([2, 3, 4]), 3)
            for moved in all_moves(question):
                paper = plain_paper(question, moved)
                if paper:
                    many += 1
                    self.assertIs(checking.is_paper(question, paper), True)
                    if many % 4 == 0:
                        self.bend(chooser, question, paper)
        self.assertGreater(many, 100)

    def test_either_a_paper_or_a_hedge(self):
        for drawing in all_drawings(2) + drawings_of_three()[::3]:
            for question in all_questions(drawing):
                hedges = all_hedges(question)
                for moved in all_moves(question):
                    paper = plain_paper(question, moved)
                    if paper:
                        self.assertIs(checking.is_paper(question, paper), True)
                        self.assertEqual(hedges, [])
                    elif is_whole(question, moved):
                        self.assertTrue(any(hedge[0] == moved for hedge in hedges))

    def test_example(self):
        self.assertIs(checking.is_paper(QUESTION, ((), STEPS)), True)
        self.assertIs(checking.is_paper(question=QUESTION, value=((), STEPS)), True)
        # Right steps, but their last lot is not GOAL.
        self.assertIs(checking.is_paper(QUESTION, ((), STEPS[:4] + (("join", (1, 2)),))), False)
        self.assertIs(checking.is_paper(QUESTION, ((), STEPS[:4])), False)
        self.assertIs(checking.is_paper(HARDER, ((), STEPS)), False)

    def test_more_steps_than_are_let(self):
        question = ((1, (), ()), (), (), (), (0,))
        self.assertIs(checking.is_paper(question, ((), (("watched",),) * 400)), True)
        self.assertIs(checking.is_paper(question, ((), (("watched",),) * 401)), False)
        self.assertIs(checking.is_paper(question, ((), ())), False)

    def test_moves(self):
        # Nothing points into 0, which is seen beside 1, which is set: it may be moved, or stay.
        question = ((3, ((0, 1), (0, 2), (1, 2)), ()), (), (1,), (0,), (2,))
        room = (("watched",), ("part", 0, (0,)), ("part", 0, (2,)), ("join", (1, 2)))
        self.assertIs(checking.is_paper(question, ((0,), room[:3])), True)
        self.assertIs(checking.is_paper(question, ((), room)), True)
        self.assertIs(checking.is_paper(question, ((), room[:3])), False)
        self.assertIs(checking.is_paper(question, ((0,), room)), False)
        bound = ((3, ((0, 1), (0, 2), (1, 2)), ((0, 2),)), (), (1,), (0,), (2,))
        steps = (("watched",), ("part", 0, (0, 2)), ("part", 0, (1,)))
        self.assertIs(checking.is_paper(bound, ((), steps[:2])), True)
        self.assertIs(checking.is_paper(bound, ((0,), steps[:2])), False)

    def test_values_of_all_kinds(self):
        for value in NO_TUPLES + [(), ((),), ((), (), ()), ((), STEPS, ()), [(), STEPS], (HOSTILE, HOSTILE),
                                  (HOSTILE, STEPS), ((), HOSTILE), ((HOSTILE,), STEPS), ((), (HOSTILE,)), (STEPS, ()),
                                  ([], STEPS), ((), list(STEPS)), (None, STEPS), ((0,), STEPS), ((1,), STEPS),
                                  ((2,), STEPS), ((True,), STEPS)]:
            self.assertIs(checking.is_paper(QUESTION, value), False)

    def test_order(self):
        assert_first_told(self, checking.is_paper, {"question": QUESTION, "value": None}, {"question": BAD_QUESTION})


class HedgeTest(unittest.TestCase):

    def compare(self, question, moves=None):
        """All lots in the places of GREAT and SMALL, behind some rows of moves."""
        told = all_hedges(question)
        every = lots(question[0][0])
        if moves is None:
            moves = [turned for some in subsets(question[3]) for turned in permutations(some)]
        for moved in moves:
            for great in every:
                for small in every:
                    hedge = (moved, great, small)
                    self.assertIs(checking.is_hedge(question, hedge), hedge in told)
        return told

    def test_all_questions_of_drawings_of_two_things(self):
        for drawing in [(1, (), ())] + all_drawings(2):
            for question in all_questions(drawing):
                self.compare(question)

    def test_all_questions_of_drawings_of_three_things(self):
        many = 0
        for at, drawing in enumerate(drawings_of_three()):
            for question in list(all_questions(drawing))[at % 5::5]:
                hedges = self.compare(question)
                many += len(hedges)
                for _, great, _ in hedges:
                    # GREAT has a thing of SET that is not of TRIED.
                    self.assertTrue(set(great) & set(question[2]) - set(question[1]))
        self.assertGreater(many, 50)

    def test_drawn_questions_of_four_things(self):
        chooser = random.Random(261)
        for at in range(60):
            question = some_question(chooser, 4) if at < 20 else some_hedged(chooser, 4, at < 40)[0]
            self.compare(question, all_moves(question) + [question[3]])

    def test_greater_questions(self):
        chooser = random.Random(262)
        for _ in range(30):
            question, hedges = some_hedged(chooser, chooser.choice([5, 6]))
            for moved, great, small in hedges[:8]:
                self.assertIs(checking.is_hedge(question, (moved, great, small)), True)
                for thing in range(question[0][0]):
                    turned = tuple(sorted(set(great) ^ {thing}))
                    self.assertIs(checking.is_hedge(question, (moved, turned, small)),
                                  plain_is_great(question, turned, small))
                    turned = tuple(sorted(set(small) ^ {thing}))
                    self.assertIs(checking.is_hedge(question, (moved, great, turned)),
                                  turned in plain_rooms(question[0][2], plain_goal(question, moved))
                                  and plain_is_great(question, great, turned))

    def test_example(self):
        self.assertIs(checking.is_hedge(HARDER, ((), (0, 2), (2,))), True)
        self.assertIs(checking.is_hedge(question=HARDER, value=((), (0, 2), (2,))), True)
        self.assertIs(checking.is_hedge(QUESTION, ((), (0, 2), (2,))), False)
        self.assertIs(checking.is_hedge(HARDER, ((), (2,), (2,))), False)
        self.assertIs(checking.is_hedge(HARDER, ((), (0, 1, 2), (2,))), False)
        self.assertIs(checking.is_hedge(HARDER, ((), (0, 2), (1,))), False)
        tried = HARDER[:1] + ((0,),) + HARDER[2:]
        self.assertIs(checking.is_hedge(tried, ((), (0, 2), (2,))), False)

    def test_a_thing_that_may_still_be_moved(self):
        drawing = (4, ((0, 1), (0, 2), (1, 2), (2, 3)), ((0, 2),))
        # The thing 1 is seen: nothing but 0, which is set, points into it.
        question = (drawing, (), (0,), (1,), (3,))
        self.assertIs(checking.may_move(question, (), 1), True)
        self.assertIs(checking.is_hedge(question, ((), (0, 2), (2,))), False)
        self.assertIs(checking.is_hedge(question, ((1,), (0, 2), (2,))), True)
        self.assertIs(checking.is_hedge(question, ([1], (0, 2), (2,))), False)
        self.assertIs(checking.is_hedge(question, ((1, 1), (0, 2), (2,))), False)

    def test_values_of_all_kinds(self):
        for value in NO_TUPLES + [(), ((), (0, 2)), ((), (0, 2), (2,), ()), [(), (0, 2), (2,)], (HOSTILE,) * 3,
                                  (HOSTILE, (0, 2), (2,)), ((), HOSTILE, (2,)), ((), (0, 2), HOSTILE),
                                  ((), (0, HOSTILE), (2,)), ((), (0, 2), (HOSTILE,)), ((HOSTILE,), (0, 2), (2,)),
                                  ([], (0, 2), (2,)), ((), [0, 2], (2,)), ((), (0, 2), [2]), ((), (2, 0), (2,)),
                                  ((), (0, 2, 2), (2,)), ((), (0, 2.0), (2,)), ((), (False, 2), (2,)),
                                  ((), (0, 2), (2.0,)), ((), (0, 2), (2, 2)), ((), (0, 2), ()), ((), (), ()),
                                  ((), (0, 2, 3), (2,)), ((0,), (0, 2), (2,)), (None, (0, 2), (2,)),
                                  (("2",), (0, 2), (2,)), ((), (0, 2, 10 ** 5000), (2,))]:
            self.assertIs(checking.is_hedge(HARDER, value), False)

    def test_true_in_the_place_of_1(self):
        question = ((2, ((0, 1),), ((0, 1),)), (), (0,), (), (1,))
        self.assertIs(checking.is_hedge(question, ((), (0, 1), (1,))), True)
        self.assertIs(checking.is_hedge(question, ((), (0, 1), (True,))), False)
        self.assertIs(checking.is_hedge(question, ((), (0, True), (1,))), False)
        self.assertIs(checking.is_hedge(question, ((), (False, 1), (1,))), False)

    def test_order(self):
        assert_first_told(self, checking.is_hedge, {"question": QUESTION, "value": None}, {"question": BAD_QUESTION})


if __name__ == "__main__":
    unittest.main()
