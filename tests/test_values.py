"""[28], [29]: steps and papers as formulas, against plain sums and against worlds."""

import random
import unittest
from fractions import Fraction
from math import gcd

from deedseen import values
from deedseen.answers import answer, watched
from deedseen.errors import BadParameter, BadQuestion, BadSteps, BadTable, Nought, TooGreat
from deedseen.questions import things_of
from deedseen.worlds import factor, is_open
from tests.helping import (EXAMPLE, HOSTILE, NO_TUPLES, assert_first_told, assert_plain, assert_refused, refusal,
                           some_world)
from tests.plain import (PlainNought, all_moves, plain_by_paper, plain_lots, plain_numbers, plain_paper, plain_sums,
                         some_question, some_steps, some_table)

QUESTION = (EXAMPLE, (), (0,), (), (2,))
STEPS = (("watched",), ("part", 0, (1,)), ("part", 0, (0, 2)), ("sum", 2, (2,)), ("join", (1, 3)))
PAPER = ((), STEPS)
EVEN = ((2, 2, 2), ((1, 8),) * 8)
BAD_QUESTION = ((EXAMPLE, (), (0,), (0,), (2,)), BadQuestion, {"place": (3,)})


def as_fractions(case, numbers):
    """Fractions, perhaps above 1; each without a common divisor."""
    assert_plain(case, numbers)
    for above, below in numbers:
        case.assertTrue(above >= 0 and below >= 1 and gcd(above, below) == 1)
    return [Fraction(above, below) for above, below in numbers]


def some_open_world(chooser, question):
    """A world that is open to the question, often with noughts among its weights."""
    drawing = question[0]
    sizes = tuple(chooser.choice([1, 2, 2, 2, 3]) for _ in range(drawing[0]))
    for least in (0, 0, 1):
        world = some_world(chooser, drawing, sizes, least=least)
        if is_open(drawing, world, question[1]):
            return world
    return None


class StepFactorsTest(unittest.TestCase):

    def test_factors_of_the_lots_in_open_worlds(self):
        chooser = random.Random(28)
        for _ in range(150):
            question = some_question(chooser, chooser.choice([2, 3, 3, 4]), 3)
            world = some_open_world(chooser, question)
            steps = some_steps(chooser, question, chooser.randint(1, 8))
            told = values.step_factors(question, steps, (world[0], watched(question, world)))
            self.assertEqual(told, tuple(factor(question[0], world, lot) for lot in plain_lots(question, steps)))

    def compare(self, question, steps, table):
        try:
            plain = [list(numbers.values()) for numbers in plain_numbers(question, steps, table)]
        except PlainNought as nought:
            assert_refused(self, Nought, {"row": nought.args[0]}, values.step_factors, question, steps, table)
            return True
        told = values.step_factors(question, steps, table)
        self.assertEqual([as_fractions(self, numbers) for numbers in told], plain)
        return False

    def test_tables_of_no_world(self):
        chooser = random.Random(281)
        noughts = 0
        for at in range(300):
            question = some_question(chooser, chooser.choice([2, 3, 3, 4]), 3)
            sizes = [chooser.choice([1, 2, 2, 2, 3]) for _ in range(question[0][0])]
            table = some_table(chooser, question, sizes, least=at % 3 // 2)
            noughts += self.compare(question, some_steps(chooser, question, chooser.randint(1, 7)), table)
        self.assertGreater(noughts, 25)

    def test_things_that_do_not_count(self):
        # The thing 0 is tried; no arrow leads from it to 1: it counts as if it were 0.
        question = ((2, (), ()), (0,), (0,), (), (1,))
        table = ((2, 2), ((1, 3), (2, 3), (1, 5), (4, 5)))
        told = values.step_factors(question, (("watched",),), table)
        self.assertEqual(told, (((1, 3), (2, 3), (1, 3), (2, 3)),))
        led = ((2, ((0, 1),), ()), (0,), (0,), (), (1,))
        self.assertEqual(values.step_factors(led, (("watched",),), table), (table[1],))
        # Within a part: 0 is no parent of 1, so that 1's numbers are those for 0 at 0.
        question = ((2, (), ()), (), (), (), (1,))
        table = ((2, 2), ((1, 6), (1, 3), (1, 8), (3, 8)))
        told = values.step_factors(question, (("watched",), ("part", 0, (1,)), ("sum", 0, (1,))), table)
        self.assertEqual(told[1], ((1, 3), (2, 3), (1, 3), (2, 3)))
        self.assertEqual(told[2], ((7, 24), (17, 24), (7, 24), (17, 24)))

    def test_the_sum_ahead_of_the_first_is_1_whatever_the_table(self):
        # Joined, 0 with 2 and 1 by itself need not be 1 together; a part of that takes them as they are.
        question = ((3, ((0, 1), (1, 2)), ((0, 2),)), (), (), (), (2,))
        chooser = random.Random(282)
        steps = STEPS[:3] + (("join", (1, 2)), ("part", 3, (0, 2)), ("part", 3, (1,)), ("part", 3, (0, 1, 2)))
        for _ in range(10):
            table = some_table(chooser, question, (2, 2, 2), 1)
            self.compare(question, steps, table)

    def test_the_first_nought(self):
        # The thing 0 is never 1: with 0 at 1, 1's part is to be divided by 0.
        question = ((3, ((0, 1), (1, 2)), ()), (), (), (), (2,))
        table = ((2, 2, 2), ((1, 4),) * 4 + ((0, 1),) * 4)
        steps = (("watched",), ("part", 0, (0,)), ("part", 0, (1,)), ("part", 0, (2,)))
        self.assertEqual(len(values.step_factors(question, steps[:2], table)), 2)
        assert_refused(self, Nought, {"row": (1, 0, 0)}, values.step_factors, question, steps, table)
        # Both at once: 1 and 0 together never are; for 2's part that is the first row; the thing 0 counts there as 0.
        table = ((2, 2, 2), ((1, 2), (1, 2)) + ((0, 1),) * 6)
        assert_refused(self, Nought, {"row": (0, 1, 0)}, values.step_factors, question,
                       (("watched",), ("part", 0, (2,)), ("part", 0, (1,))), table)
        assert_refused(self, Nought, {"row": (1, 0, 0)}, values.step_factors, question,
                       (("watched",), ("part", 0, (1,)), ("part", 0, (2,))), table)
        # In one step the rows come first, and in a row the sums of fewer things.
        assert_refused(self, Nought, {"row": (0, 1, 0)}, values.step_factors, question,
                       (("watched",), ("part", 0, (1, 2))), table)
        # The part of 0 alone divides by nothing.
        self.assertEqual(values.step_factors(question, (("watched",), ("part", 0, (0,))), table)[1],
                         ((1, 1),) * 4 + ((0, 1),) * 4)

    def test_example(self):
        told = values.step_factors(QUESTION, STEPS, EVEN)
        self.assertEqual(told, (((1, 8),) * 8, ((1, 2),) * 8, ((1, 4),) * 8, ((1, 2),) * 8, ((1, 4),) * 8))
        self.assertEqual(values.step_factors(question=QUESTION, steps=STEPS, table=EVEN), told)
        self.assertEqual(values.step_factors(QUESTION, (), EVEN), ())

    def test_400_steps(self):
        steps = (("watched",),) + tuple(("part", at, (0, 1, 2)) for at in range(398)) + (("sum", 398, (0,)),)
        told = values.step_factors(QUESTION, steps, EVEN)
        self.assertEqual(told[:399], (EVEN[1],) * 399)
        self.assertEqual(told[399], ((1, 2),) * 8)

    def test_just_as_many_rows_as_are_let(self):
        question = ((3, ((0, 1), (0, 2), (1, 2)), ()), (), (), (), (2,))
        table = ((64, 64, 4), ((1, 16384),) * 16384)
        steps = (("watched",), ("part", 0, (2,)), ("sum", 0, (0,)), ("part", 0, (0, 1)))
        told = values.step_factors(question, steps, table)
        self.assertEqual([set(numbers) for numbers in told], [{(1, 16384)}, {(1, 4)}, {(1, 64)}, {(1, 4096)}])
        self.assertEqual({len(numbers) for numbers in told}, {16384})

    def test_order(self):
        right = {"question": QUESTION, "steps": STEPS, "table": EVEN}
        wrong = {"question": BAD_QUESTION, "steps": (STEPS[1:], BadSteps, {"place": (0,)}),
                 "table": ((EVEN[0], None), BadTable, {"place": (1,)})}
        assert_first_told(self, values.step_factors, right, wrong)
        many = (("watched",),) * 401
        assert_refused(self, TooGreat, {"most": 400}, values.step_factors, QUESTION, many, None)
        assert_refused(self, TooGreat, {"most": 16384}, values.step_factors, QUESTION, STEPS, ((64,) * 3, None))
        for value in NO_TUPLES:
            assert_refused(self, BadSteps, {"place": ()}, values.step_factors, QUESTION, value, EVEN)
            assert_refused(self, BadTable, {"place": ()}, values.step_factors, QUESTION, STEPS, value)
            assert_refused(self, BadTable, {"place": ()}, values.step_factors, QUESTION, (), value)


class ByPaperTest(unittest.TestCase):

    def questions(self, seed, many, counts=(2, 3, 3, 4)):
        """Drawn questions that have papers, each with all of its papers' moves."""
        chooser = random.Random(seed)
        while many:
            question = some_question(chooser, chooser.choice(counts), 3)
            papers = [plain_paper(question, moved) for moved in all_moves(question)]
            papers = [paper for paper in papers if paper]
            if papers:
                many -= 1
                yield chooser, question, papers

    def test_the_answer_in_open_worlds(self):
        for chooser, question, papers in self.questions(29, 120):
            world = some_open_world(chooser, question)
            table = (world[0], watched(question, world))
            told = answer(question, world)
            for paper in papers:
                self.assertEqual(values.by_paper(question, paper, table), told)

    def test_tables_of_no_world(self):
        noughts = set()
        for chooser, question, papers in self.questions(291, 120):
            sizes = [chooser.choice([1, 2, 2, 3]) for _ in range(question[0][0])]
            for least in (0, 1):
                table = some_table(chooser, question, sizes, least)
                paper = chooser.choice(papers)
                try:
                    plain = plain_by_paper(question, paper, table)
                except PlainNought as nought:
                    assert_refused(self, Nought, {"row": nought.args[0]}, values.by_paper, question, paper, table)
                    noughts.add(refusal(values.step_factors, question, paper[1], table) is None)
                    continue
                told = as_fractions(self, values.by_paper(question, paper, table))
                self.assertEqual(told, plain)
                self.together_1(question, table[0], told)
        # Some of them are told by the last division alone.
        self.assertEqual(noughts, {True, False})

    def together_1(self, question, sizes, told):
        things = things_of(question)
        given = [place for place, thing in enumerate(things) if thing not in question[4]]
        sums = plain_sums([sizes[thing] for thing in things], told, given)
        self.assertEqual(set(sums.values()), {1})

    def test_two_papers_of_one_question(self):
        # Alike for what is watched in an open world, but not for each table.
        drawing = (2, (), ())
        question = (drawing, (), (0,), (), (1,))
        papers = [((), (("watched",), ("sum", 0, (1,)))), ((), (("watched",), ("part", 0, (1,))))]
        world = ((2, 2), (), (((1, 2),), ((1, 3),)))
        table = ((2, 2), watched(question, world))
        self.assertEqual([values.by_paper(question, paper, table) for paper in papers], [((1, 4), (3, 4)) * 2] * 2)
        table = ((2, 2), ((1, 4), (1, 4), (1, 2), (0, 1)))
        told = [values.by_paper(question, paper, table) for paper in papers]
        self.assertEqual(told, [((3, 4), (1, 4)) * 2, ((1, 2), (1, 2)) * 2])

    def test_the_last_nought(self):
        question = ((2, (), ((0, 1),)), (), (), (0,), (1,))
        paper = ((), (("watched",),))
        self.assertEqual(values.by_paper(question, paper, ((2, 2), ((1, 2), (1, 4), (0, 1), (1, 4)))),
                         ((2, 3), (1, 3), (0, 1), (1, 1)))
        table = ((2, 2), ((1, 2), (1, 2), (0, 1), (0, 1)))
        assert_refused(self, Nought, {"row": (1, 0)}, values.by_paper, question, paper, table)
        # A row of the question's things alone, in their order.
        question = ((3, (), ((1, 2),)), (), (), (2,), (1,))
        paper = ((), (("watched",), ("part", 0, (1, 2))))
        table = ((2, 2, 2), ((1, 4), (0, 1)) * 4)
        assert_refused(self, Nought, {"row": (0, 1)}, values.by_paper, question, paper, table)

    def test_noughts_of_steps_come_first(self):
        question = ((3, ((0, 1),), ((1, 2),)), (), (), (2,), (1,))
        paper = ((), (("watched",), ("part", 0, (1, 2)), ("part", 0, (0,)), ("join", (1, 2))))
        table = ((2, 2, 2), ((1, 2), (0, 1), (1, 2), (0, 1)) + ((0, 1),) * 4)
        assert_refused(self, Nought, {"row": (1, 0, 0)}, values.by_paper, question, paper, table)
        # Without the nought of 0 it is the last division that fails.
        table = ((2, 2, 2), ((1, 4), (0, 1)) * 4)
        assert_refused(self, Nought, {"row": (0, 1)}, values.by_paper, question, paper, table)

    def test_set_things_that_move_nothing(self):
        question = ((3, ((0, 2),), ()), (), (0, 1), (), (2,))
        paper = ((), (("watched",), ("part", 0, (2,))))
        table = some_table(random.Random(292), question, (2, 3, 2), 1)
        told = values.by_paper(question, paper, table)
        self.assertEqual(told[0:2], told[2:4])
        self.assertEqual(told[0:6], told[0:2] * 3)
        self.assertEqual(told[6:12], told[6:8] * 3)

    def test_example(self):
        self.assertEqual(values.by_paper(QUESTION, PAPER, EVEN), ((1, 2),) * 4)
        self.assertEqual(values.by_paper(question=QUESTION, paper=PAPER, table=EVEN), ((1, 2),) * 4)

    def test_no_papers(self):
        no_papers = NO_TUPLES + [(), ((),), ((), ()), ((), STEPS[:4]), ((), STEPS[1:]), ((0,), STEPS), [(), STEPS],
                                 ((), (("watched",),) * 401), ((), STEPS, ()), (HOSTILE, STEPS), ((), (HOSTILE,))]
        for paper in no_papers:
            assert_refused(self, BadParameter, {"value": paper}, values.by_paper, QUESTION, paper, EVEN)

    def test_order(self):
        wrong_paper = ((), STEPS[:4])
        right = {"question": QUESTION, "paper": PAPER, "table": EVEN}
        wrong = {"question": BAD_QUESTION, "paper": (wrong_paper, BadParameter, {"value": wrong_paper}),
                 "table": ((EVEN[0], None), BadTable, {"place": (1,)})}
        assert_first_told(self, values.by_paper, right, wrong)
        assert_refused(self, TooGreat, {"most": 16384}, values.by_paper, QUESTION, PAPER, ((64,) * 3, None))
        assert_refused(self, BadTable, {"place": (1, 0)}, values.by_paper, QUESTION, PAPER, (EVEN[0], ((2, 1),) * 8))


if __name__ == "__main__":
    unittest.main()
