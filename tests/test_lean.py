"""[30]: papers without idle steps."""

import random
import unittest

from deedseen.checking import is_paper
from deedseen.errors import BadParameter, BadQuestion, DeedError
from deedseen.values import by_paper, lean, step_factors
from tests.helping import EXAMPLE, HOSTILE, NO_TUPLES, assert_first_told, assert_plain, assert_refused
from tests.plain import all_moves, plain_lots, plain_paper, some_question, some_step, some_table

QUESTION = (EXAMPLE, (), (0,), (), (2,))
STEPS = (("watched",), ("part", 0, (1,)), ("part", 0, (0, 2)), ("sum", 2, (2,)), ("join", (1, 3)))


def named(step):
    if step[0] == "watched":
        return ()
    return step[1] if step[0] == "join" else (step[1],)


def renumbered(step, numbers):
    if step[0] == "watched":
        return step
    if step[0] == "join":
        return "join", tuple(numbers[place] for place in step[1])
    return step[0], numbers[step[1]], step[2]


def needed(steps, place):
    """All steps that one needs, itself among them."""
    found = {place}
    for other in named(steps[place]):
        found |= needed(steps, other)
    return found


def put_in(steps, at, step):
    """The steps with one more, ahead of the number `at`, which none of the others names."""
    numbers = {place: place + (place >= at) for place in range(len(steps))}
    moved = tuple(renumbered(told, numbers) for told in steps)
    return moved[:at] + (step,) + moved[at:]


def some_papers(seed, many):
    chooser = random.Random(seed)
    while many:
        question = some_question(chooser, chooser.choice([2, 3, 4]), 3)
        moved = chooser.choice(all_moves(question))
        paper = plain_paper(question, moved)
        if paper:
            many -= 1
            yield chooser, question, paper


class LeanTest(unittest.TestCase):

    def compare(self, question, paper):
        """The told paper has just the steps that are needed, in their order."""
        moved, steps = paper
        told = lean(question, paper)
        kept = sorted(needed(steps, len(steps) - 1))
        numbers = {place: at for at, place in enumerate(kept)}
        self.assertEqual(told, (moved, tuple(renumbered(steps[place], numbers) for place in kept)))
        assert_plain(self, told)
        self.assertIs(is_paper(question, told), True)
        self.assertEqual(lean(question, told), told)
        return kept

    def test_papers_with_idle_steps(self):
        # The plain papers have many of them.
        idle = 0
        for _, question, paper in some_papers(30, 150):
            idle += len(paper[1]) - len(self.compare(question, paper))
        self.assertGreater(idle, 300)

    def test_idle_steps_put_in_at_all_places(self):
        for chooser, question, paper in some_papers(301, 60):
            moved, steps = lean(question, paper)
            for at in range(len(steps)):
                more = put_in(steps, at, some_step(chooser, question, plain_lots(question, steps[:at])))
                self.assertEqual(lean(question, (moved, more)), (moved, steps))
                for place in range(len(more)):
                    step = some_step(chooser, question, plain_lots(question, more[:place]))
                    self.assertEqual(lean(question, (moved, put_in(more, place, step))), (moved, steps))

    def test_idle_steps_that_name_one_another(self):
        idle = (("part", 0, (0, 2)), ("sum", 1, (0,)), ("part", 2, (0,)), ("join", (3,)))
        numbers = {0: 0, 1: 5, 2: 6, 3: 7}
        steps = STEPS[:1] + idle + tuple(renumbered(step, numbers) for step in STEPS[1:])
        self.assertIs(is_paper(QUESTION, ((), steps)), True)
        self.assertEqual(lean(QUESTION, ((), steps)), ((), STEPS))

    def test_a_step_that_is_needed_twice(self):
        steps = (("watched",), ("part", 0, (0, 1, 2)), ("part", 1, (1,)), ("part", 1, (0, 2)), ("sum", 3, (2,)),
                 ("join", (2, 4)))
        self.assertEqual(lean(QUESTION, ((), steps)), ((), steps))

    def test_steps_alike_are_not_made_one(self):
        steps = (("watched",), ("watched",), ("part", 0, (1,)), ("part", 1, (0, 2)), ("sum", 3, (2,)), ("join", (2, 4)))
        self.assertEqual(lean(QUESTION, ((), steps)), ((), steps))

    def test_all_but_the_last_may_be_idle(self):
        question = ((1, (), ()), (), (), (), (0,))
        self.assertEqual(lean(question, ((), (("watched",),) * 400)), ((), (("watched",),)))

    def test_moves_stay(self):
        question = ((3, ((0, 1), (0, 2), (1, 2)), ()), (), (1,), (0,), (2,))
        steps = (("watched",), ("part", 0, (0,)), ("part", 0, (2,)))
        self.assertEqual(lean(question, ((0,), steps)), ((0,), (("watched",), ("part", 0, (2,)))))

    def test_numbers_of_the_steps_that_stay(self):
        for chooser, question, paper in some_papers(302, 80):
            table = some_table(chooser, question, [chooser.choice([1, 2]) for _ in range(question[0][0])], least=1)
            moved, steps = lean(question, paper)
            kept = sorted(needed(paper[1], len(paper[1]) - 1))
            told = step_factors(question, paper[1], table)
            self.assertEqual(step_factors(question, steps, table), tuple(told[place] for place in kept))
            self.assertEqual(by_paper(question, (moved, steps), table), by_paper(question, paper, table))

    def test_the_same_wherever_numbers_were_told(self):
        more_told = 0
        for chooser, question, paper in some_papers(303, 150):
            table = some_table(chooser, question, [2] * question[0][0])
            try:
                told = by_paper(question, paper, table)
            except DeedError:
                try:
                    by_paper(question, lean(question, paper), table)
                    more_told += 1
                except DeedError:
                    pass
                continue
            self.assertEqual(by_paper(question, lean(question, paper), table), told)
        # An idle step that divides by 0 is no longer asked.
        self.assertGreater(more_told, 0)

    def test_example_by_name(self):
        self.assertEqual(lean(question=QUESTION, paper=((), STEPS)), ((), STEPS))
        self.assertEqual(lean(QUESTION, ((), put_in(STEPS, 1, ("sum", 0, (0,))))), ((), STEPS))

    def test_no_papers(self):
        for paper in NO_TUPLES + [(), ((),), ((), ()), ((), STEPS[:4]), ((), STEPS[1:]), ((0,), STEPS), [(), STEPS],
                                  ((), (("watched",),) * 401), (HOSTILE, STEPS), ((), (HOSTILE,))]:
            assert_refused(self, BadParameter, {"value": paper}, lean, QUESTION, paper)

    def test_order(self):
        wrong = ((), STEPS[:4])
        assert_first_told(self, lean, {"question": QUESTION, "paper": ((), STEPS)},
                          {"question": ((EXAMPLE, (), (0,), (0,), (2,)), BadQuestion, {"place": (3,)}),
                           "paper": (wrong, BadParameter, {"value": wrong})})


if __name__ == "__main__":
    unittest.main()
