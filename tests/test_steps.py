"""[6], [24]: steps, their lots, and which of them are right."""

import random
import unittest

from deedseen import steps as module
from deedseen.errors import BadQuestion, BadSteps, TooGreat
from tests.helping import (EXAMPLE, HOSTILE, NO_INTEGERS, NO_TUPLES, all_arrows, all_causes, all_drawings,
                           assert_first_told, assert_plain, assert_refused, lots, some_of)
from tests.plain import all_questions, plain_lot, plain_lots, some_question, some_steps

QUESTION = (EXAMPLE, (), (0,), (), (2,))
# The example at "Hedges".
STEPS = (("watched",), ("part", 0, (1,)), ("part", 0, (0, 2)), ("sum", 2, (2,)), ("join", (1, 3)))


def bent_steps(chooser, steps, count):
    """Rows of steps with one of them bent in one place; most of them are wrong now."""
    at = chooser.randrange(len(steps))
    step = steps[at]
    thing = chooser.randrange(count)
    others = [(), ("watched", 0), ("watched", ()), ("seen",), (step[0],), step + (0,), step + ((),), list(step),
              ("Watched",), ("sum", 0), ("part", 0), ("join",), ("join", (0,), (0,)), (0,) + step[1:], step[0],
              (None,), (HOSTILE,) + step[1:], ("join", ()), (b"watched",), ("watched",), ("join", (at - 1, at)),
              ("join", (at - 1,)), ("join", (at,)), ("join", (at + 1,)), ("join", (-1,)), ("join", (False,)),
              ("join", (0, 0)), ("join", (1, 0)), ("join", [0]), ("join", 0), ("join", (0.0,)), ("join", ("0",)),
              ("join", (HOSTILE,)), ("join", tuple(range(at)))]
    if step[0] in ("sum", "part"):
        word, place, lot = step
        others += [("part" if word == "sum" else "sum", place, lot)]
        others += [(word, number, lot) for number in (at, at + 1, len(steps), -1, True, False, 0.0, "0", None, HOSTILE,
                                                      10 ** 5000, place - 1, place + 1, (place,))]
        others += [(word, place, value) for value in (
            (), lot[:-1], lot[1:], lot[::-1], lot + lot, lot + lot[-1:], (thing,), tuple(sorted({thing, *lot})),
            tuple(number for number in lot if number != thing), list(lot), set(lot), None, HOSTILE, lot[0],
            (HOSTILE,), (True,), (False,), (0.0,), ("0",), (count,), (-1,), (10 ** 5000,), tuple(range(count)),
            lot[:-1] + (HOSTILE,), lot[:-1] + (lot[-1] + 0.0,), (None,) + lot[1:])]
    if step[0] == "join":
        places = step[1]
        others += [("join", value) for value in (
            places[:-1], places[1:], places[::-1], places + places, places + (at,), places + (at + 1,), list(places),
            (-1,) + places, (0,) + places, tuple(range(at)), places[:-1] + (True,), places[:-1] + (HOSTILE,))]
    return [steps[:at] + (other,) + steps[at + 1:] for other in others]


class StepsTest(unittest.TestCase):

    def compare(self, question, steps):
        plain = plain_lots(question, steps)
        right = len(plain) == len(steps)
        self.assertIs(module.is_steps(question, steps), right)
        if right:
            told = module.lots_of(question, steps)
            self.assertEqual(told, plain)
            assert_plain(self, told)
        else:
            assert_refused(self, BadSteps, {"place": (len(plain),)}, module.lots_of, question, steps)
        return right

    def test_drawn_steps_and_bent_ones(self):
        chooser = random.Random(24)
        forms = dict.fromkeys(("watched", "sum", "part", "join"), 0)
        many_wrong = 0
        for _ in range(250):
            question = some_question(chooser, chooser.choice([2, 3, 4, 5, 6]))
            steps = some_steps(chooser, question, chooser.randint(1, 9))
            self.assertTrue(self.compare(question, steps))
            for step in steps:
                forms[step[0]] += 1
            for bent in bent_steps(chooser, steps, question[0][0]):
                many_wrong += not self.compare(question, bent)
        self.assertGreater(min(forms.values()), 100)
        self.assertGreater(many_wrong, 5000)

    def test_all_lots_of_all_small_drawings(self):
        # Each lot in the place of LOT, for a sum and for a part; each two of what comes for a join.
        for drawing in all_drawings(2) + all_drawings(3)[::5]:
            for question in list(all_questions(drawing))[::7]:
                steps = (("watched",),)
                for lot in lots(drawing[0]):
                    for word in ("sum", "part"):
                        if self.compare(question, (("watched",), (word, 0, lot))):
                            steps += ((word, 0, lot),)
                for one in range(len(steps)):
                    for other in range(len(steps)):
                        self.compare(question, steps + (("join", (one, other)),))
                    self.compare(question, steps + (("join", (one,)),))

    def test_example(self):
        self.assertEqual(module.lots_of(QUESTION, STEPS), ((0, 1, 2), (1,), (0, 2), (2,), (1, 2)))
        self.assertIs(module.is_steps(question=QUESTION, value=STEPS), True)
        for step in [("sum", 0, (2,)), ("part", 0, (0,))]:
            steps = (("watched",), step)
            assert_refused(self, BadSteps, {"place": (1,)}, module.lots_of, QUESTION, steps)
            self.assertIs(module.is_steps(QUESTION, steps), False)
        joined = STEPS[:4] + (("join", (1, 2)),)
        self.assertEqual(module.lots_of(question=QUESTION, steps=joined)[4], (0, 1, 2))

    def test_no_steps(self):
        self.assertEqual(module.lots_of(QUESTION, ()), ())
        self.assertIs(module.is_steps(QUESTION, ()), True)

    def test_all_but_what_is_tried(self):
        for tried in lots(2):
            question = (EXAMPLE, tried, (0, 1), (), (2,))
            told = tuple(thing for thing in range(3) if thing not in tried)
            self.assertEqual(module.lots_of(question, (("watched",), ("watched",))), (told, told))

    def test_joins(self):
        drawing = (6, ((0, 1),), ((2, 3), (3, 4)))
        question = (drawing, (), (), (), (5,))
        ahead = (("watched",), ("part", 0, (0,)), ("part", 0, (1,)), ("part", 0, (2, 3, 4)), ("sum", 3, (2,)),
                 ("sum", 3, (3,)), ("sum", 3, (4,)), ("part", 0, (0, 1)))
        right = {(1,), (1, 2), (1, 2, 3), (1, 3), (2, 3), (4, 6), (1, 4, 6), (1, 2, 4, 6), (3, 7), (1, 5), (0,), (7,)}
        wrong = {(1, 7), (2, 7), (0, 1), (3, 4), (4, 5), (5, 6), (1, 4, 5), (4, 5, 6), (3, 6), (0, 7)}
        for places in right:
            self.assertTrue(self.compare(question, ahead + (("join", places),)), places)
        for places in wrong:
            self.assertFalse(self.compare(question, ahead + (("join", places),)), places)
        self.assertEqual(module.lots_of(question, ahead + (("join", (1, 4, 6)),))[-1], (0, 2, 4))

    def test_400_and_401_steps(self):
        for many in (399, 400):
            steps = (("watched",),) * many
            self.assertEqual(module.lots_of(QUESTION, steps), ((0, 1, 2),) * many)
            self.assertIs(module.is_steps(QUESTION, steps), True)
        chain = (("watched",),) + tuple(("part", at, (0, 2)) for at in range(399))
        self.assertEqual(module.lots_of(QUESTION, chain)[-1], (0, 2))
        for step in [("watched",), None, HOSTILE]:
            # Too many steps are told ahead of what is wrong with each of them.
            for steps in [(step,) * 401, (step,) * 5000, (("watched",),) * 400 + (step,)]:
                assert_refused(self, TooGreat, {"most": 400}, module.lots_of, QUESTION, steps)
                self.assertIs(module.is_steps(QUESTION, steps), False)
        assert_refused(self, BadSteps, {"place": (399,)}, module.lots_of, QUESTION, (("watched",),) * 399 + (None,))

    def test_what_is_no_tuple(self):
        for value in NO_TUPLES + [list(STEPS), {0: ("watched",)}, ["watched"]]:
            assert_refused(self, BadSteps, {"place": ()}, module.lots_of, QUESTION, value)
            self.assertIs(module.is_steps(QUESTION, value), False)

    def test_things_that_are_no_steps(self):
        for value in NO_TUPLES + [(), (0,), ((),), ("",), (("watched",),), ("sum", "part")]:
            for at in range(3):
                steps = (("watched",),) * at + (value,) + (None,) * 2
                assert_refused(self, BadSteps, {"place": (at,)}, module.lots_of, QUESTION, steps)
                self.assertIs(module.is_steps(QUESTION, steps), False)

    def test_numbers_and_lots_of_all_kinds(self):
        for value in NO_INTEGERS + [-1, 1, 2, 10 ** 5000]:
            for word in ("sum", "part"):
                steps = (("watched",), (word, value, (0, 1, 2)))
                assert_refused(self, BadSteps, {"place": (1,)}, module.lots_of, QUESTION, steps)
            steps = (("watched",), ("join", (value,)))
            assert_refused(self, BadSteps, {"place": (1,)}, module.lots_of, QUESTION, steps)
        for value in NO_TUPLES + [(), (3,), (-1,), (0, 0), (2, 1, 0), (True,), (HOSTILE,)]:
            for step in [("sum", 0, value), ("part", 0, value), ("join", value)]:
                steps = (("watched",), step)
                assert_refused(self, BadSteps, {"place": (1,)}, module.lots_of, QUESTION, steps)
                self.assertIs(module.is_steps(QUESTION, steps), False)

    def test_the_first_wrong_one_is_told(self):
        steps = (("watched",), ("part", 0, (1,)), ("sum", 3, (2,)), ("join", (3,)))
        assert_refused(self, BadSteps, {"place": (2,)}, module.lots_of, QUESTION, steps)
        assert_refused(self, BadSteps, {"place": (0,)}, module.lots_of, QUESTION, steps[1:])


class FactsTest(unittest.TestCase):

    def test_no_wrong_step_becomes_right_with_more(self):
        chooser = random.Random(241)
        for _ in range(150):
            (count, arrows, causes), *rest = some_question(chooser, chooser.choice([3, 4]), 3)
            more = (count, tuple(sorted({*arrows, *some_of(chooser, all_arrows(count), 2)})),
                    tuple(sorted({*causes, *some_of(chooser, all_causes(count), 1)})))
            less, greater = ((count, arrows, causes), *rest), (more, *rest)
            for steps in bent_steps(chooser, some_steps(chooser, less, 4), count):
                if module.is_steps(greater, steps):
                    self.assertIs(module.is_steps(less, steps), True)

    def test_plain_way_agrees_with_the_words_about_sums(self):
        # LOT of a sum has, with a thing, all that leads to it within the step's lot.
        question = ((4, ((0, 2), (1, 2), (2, 3)), ()), (), (), (), (3,))
        let = [lot for lot in lots(4) if plain_lot(question, [(0, 1, 2, 3)], ("sum", 0, lot))]
        self.assertEqual(let, [(0,), (1,), (0, 1), (0, 1, 2), (0, 1, 2, 3)])


class ParametersTest(unittest.TestCase):

    def test_order(self):
        bad_question = ((EXAMPLE, (), (0,), (0,), (2,)), BadQuestion, {"place": (3,)})
        assert_first_told(self, module.lots_of, {"question": QUESTION, "steps": STEPS},
                          {"question": bad_question, "steps": ((None,), BadSteps, {"place": (0,)})})
        assert_first_told(self, module.is_steps, {"question": QUESTION, "value": None}, {"question": bad_question})
        assert_refused(self, BadQuestion, {"place": (3,)}, module.lots_of, bad_question[0], (None,) * 401)


if __name__ == "__main__":
    unittest.main()
