"""[31], [32]: told or not told, and each state of the search."""

import random
import unittest

from deedseen.answers import answer, watched
from deedseen.checking import is_hedge, is_paper
from deedseen.errors import BadParameter, BadQuestion
from deedseen.solving import is_told, solve, solving_after
from deedseen.values import by_paper
from tests.helping import (EXAMPLE, NO_INTEGERS, NO_TUPLES, all_arrows, all_drawings, assert_first_told, assert_plain,
                           assert_refused, bad_parameter, some_world)
from tests.plain import (all_hedges, all_questions, plain_goal, plain_leads, plain_lots, plain_may_move, plain_rooms,
                         plain_solve, some_hedged, some_question)

QUESTION = (EXAMPLE, (), (0,), (), (2,))
HARDER = ((3, ((0, 1), (0, 2), (1, 2)), ((0, 2),)), (), (0,), (), (2,))
STEPS = (("watched",), ("part", 0, (1,)), ("part", 0, (0, 2)), ("sum", 2, (2,)), ("join", (1, 3)))


def plain_step(question, state):
    """One step of the search, by the words; None at an end."""
    (_, arrows, causes), _, _, seen, _ = question
    moved, steps, done, now, left = state
    if steps == ():
        for thing in seen:
            if thing not in moved and plain_may_move(question, moved, thing):
                return (moved + (thing,), steps, done, now, left)
        return (moved, (("watched",),), done, now, tuple(plain_rooms(causes, plain_goal(question, moved))))
    if now is None:
        if left:
            return (moved, steps, done, (left[0], 0), left[1:])
        if steps[-1][0] == "join":
            return None
        return (moved, steps + (("join", tuple(sorted(done))),), done, None, left)
    room, place = now
    lot = plain_lots(question, steps)[place]
    if lot == room:
        return (moved, steps, done + (place,), None, left)
    rooms = plain_rooms(causes, lot)
    if len(rooms) > 1:
        part = [one for one in rooms if set(room) <= set(one)]
        return (moved, steps + (("part", place, part[0]),), done, (room, len(steps)), left)
    leads = tuple(thing for thing in lot if plain_leads(arrows, lot, thing, room))
    if leads != lot:
        return (moved, steps + (("sum", place, leads),), done, (room, len(steps)), left)
    return None


def what_falls(question, state):
    """What is less behind each step, as the document tells it."""
    moved, steps, _, now, left = state
    size = len(plain_lots(question, steps)[now[1]]) if now else 0
    joined = 0 if steps and steps[-1][0] == "join" else 1
    # Behind the first steps the rooms come: what isn't moved falls ahead of all else.
    return len(question[3]) - len(moved) + (not steps), 2 * len(left) + (now is not None), size, joined


class SolvingTest(unittest.TestCase):

    def compare(self, question, states=True):
        plain = plain_solve(question)
        told = solve(question)
        assert_plain(self, told)
        self.assertIs(is_told(question), plain[0] == "told")
        if plain[0] == "not":
            self.assertEqual(told, plain)
            self.assertIs(is_hedge(question, told[1]), True)
            self.assertIs(is_paper(question, told[1]), False)
        else:
            self.assertEqual((told[0], told[1][0]), plain)
            self.assertIs(is_paper(question, told[1]), True)
        if states:
            self.compare_states(question, told)
        return told

    def compare_states(self, question, told):
        state, many = ((), (), (), None, ()), 0
        while True:
            self.assertEqual(solving_after(question, many), state)
            assert_plain(self, state)
            self.check_what_holds(question, state)
            further = plain_step(question, state)
            if further is None:
                break
            self.assertLess(what_falls(question, further), what_falls(question, state))
            state, many = further, many + 1
        # The state at an end stays.
        for more in (many + 1, many + 2, 1000):
            self.assertEqual(solving_after(question, more), state)
        moved, steps, _, now, _ = state
        if told[0] == "told":
            self.assertEqual((told[1], now), ((moved, steps), None))
        else:
            self.assertEqual(told[1], (moved, plain_lots(question, steps)[now[1]], now[0]))

    def check_what_holds(self, question, state):
        moved, steps, done, now, left = state
        lots_told = plain_lots(question, steps)
        self.assertEqual(len(lots_told), len(steps))
        if not steps:
            self.assertEqual((done, now, left), ((), None, ()))
            return
        rooms = [lots_told[place] for place in done] + list(left)
        if now:
            rooms.append(now[0])
            self.assertLessEqual(set(now[0]), set(lots_told[now[1]]))
        self.assertEqual(sorted(rooms), plain_rooms(question[0][2], plain_goal(question, moved)))

    def test_all_questions_of_drawings_of_two_things(self):
        for drawing in [(1, (), ())] + all_drawings(2):
            for question in all_questions(drawing):
                self.compare(question)

    def test_all_questions_of_drawings_of_three_things(self):
        found = {"told": 0, "not": 0}
        for drawing in all_drawings(3):
            if len(drawing[2]) <= 2:
                for question in all_questions(drawing):
                    found[self.compare(question)[0]] += 1
        self.assertGreater(min(found.values()), 100)

    def test_drawn_questions_of_four_and_five_things(self):
        chooser = random.Random(31)
        for count, many in ((4, 150), (5, 80)):
            for _ in range(many):
                self.compare(some_question(chooser, count))
                self.compare(some_hedged(chooser, count)[0])

    def test_greater_questions(self):
        chooser = random.Random(311)
        for count in (6, 7, 8):
            for _ in range(12):
                self.compare(some_question(chooser, count))
        for _ in range(8):
            told = self.compare_ten(some_question(chooser, 10))
            self.assertIn(told[0], ("told", "not"))

    def compare_ten(self, question):
        told = solve(question)
        judge = is_paper if told[0] == "told" else is_hedge
        self.assertIs(judge(question, told[1]), True)
        self.compare_states(question, told)
        return told

    def test_the_greatest_drawing(self):
        every = tuple(range(10))
        pairs = tuple((thing, thing + 1) for thing in range(9))
        self.compare_ten(((10, all_arrows(10), pairs), (), (0, 4), (2, 7), (9,)))
        self.compare_ten(((10, pairs, (every[::2], every[1::2])), (), (0, 1), (), (9,)))
        told = self.compare_ten(((10, pairs, (every,)), (), (0,), (), (9,)))
        # Each thing but 0 leads to 9 on its own: GOAL is one room, and 0 is bound to it.
        self.assertEqual(told, ("not", ((), every, every[1:])))
        self.assertEqual(solve(((10, pairs, (every,)), (0,), (0,), (), (9,)))[0], "told")

    def test_each_hedge_lies_in_the_told_one(self):
        chooser = random.Random(312)
        for _ in range(60):
            question, hedges = some_hedged(chooser, chooser.choice([3, 4, 5]))
            _, (moved, great, small) = solve(question)
            for other_moved, other, room in hedges:
                self.assertEqual(set(other_moved), set(moved))
                self.assertGreaterEqual(room, small)
                if room == small:
                    self.assertLessEqual(set(other), set(great))
            self.assertTrue(all(hedge in all_hedges(question) for hedge in hedges))

    def test_papers_tell_the_answer(self):
        chooser = random.Random(313)
        for _ in range(120):
            question = some_question(chooser, chooser.choice([3, 4]), 3)
            word, paper = solve(question)
            if word == "told":
                world = some_world(chooser, question[0], least=1)
                table = (world[0], watched(question, world))
                self.assertEqual(by_paper(question, paper, table), answer(question, world))

    def test_example(self):
        self.assertEqual(solve(QUESTION), ("told", ((), STEPS)))
        self.assertEqual(solve(question=HARDER), ("not", ((), (0, 2), (2,))))
        self.assertIs(is_told(question=QUESTION), True)
        self.assertIs(is_told(HARDER), False)
        self.assertEqual(solve(HARDER[:1] + ((0,),) + HARDER[2:])[0], "told")

    def test_states_of_the_example(self):
        told = [((), (), (), None, ()), ((), STEPS[:1], (), None, ((1,), (2,))),
                ((), STEPS[:1], (), ((1,), 0), ((2,),)), ((), STEPS[:2], (), ((1,), 1), ((2,),)),
                ((), STEPS[:2], (1,), None, ((2,),)),
                ((), STEPS[:2], (1,), ((2,), 0), ()), ((), STEPS[:3], (1,), ((2,), 2), ()),
                ((), STEPS[:4], (1,), ((2,), 3), ()), ((), STEPS[:4], (1, 3), None, ()), ((), STEPS, (1, 3), None, ())]
        for many, state in enumerate(told):
            self.assertEqual(solving_after(QUESTION, many), state)
        self.assertEqual(solving_after(question=QUESTION, many=10), told[-1])
        state = solving_after(HARDER, 1000)
        self.assertEqual(state[3][0], (2,))
        self.assertEqual(plain_lots(HARDER, state[1])[state[3][1]], (0, 2))

    def test_one_room_alone_is_joined_all_the_same(self):
        question = ((1, (), ()), (), (), (), (0,))
        self.assertEqual(solve(question), ("told", ((), (("watched",), ("join", (0,))))))

    def test_moves_one_by_one(self):
        question = ((4, ((0, 3), (1, 3), (2, 3)), ()), (), (), (0, 1, 2), (3,))
        self.assertEqual([solving_after(question, many)[0] for many in range(6)],
                         [(), (0,), (0, 1), (0, 1, 2), (0, 1, 2), (0, 1, 2)])
        self.assertEqual([solving_after(question, many)[1] for many in (3, 4)], [(), (("watched",),)])
        # Behind the move of another one a thing that comes ahead of it may be moved, too.
        question = ((4, ((1, 3),), ((0, 1), (1, 2))), (), (), (0, 1), (3,))
        self.assertEqual(solve(question)[1][0], solving_after(question, 1000)[0])
        self.compare(question)


class ParametersTest(unittest.TestCase):

    def test_many(self):
        for many in (0, 1, 999, 1000):
            solving_after(QUESTION, many)
        for many in NO_INTEGERS + [-1, 1001, 10 ** 5000, -10 ** 5000]:
            assert_refused(self, BadParameter, {"value": many}, solving_after, QUESTION, many)

    def test_order(self):
        bad_question = ((EXAMPLE, (), (0,), (0,), (2,)), BadQuestion, {"place": (3,)})
        assert_first_told(self, solving_after, {"question": QUESTION, "many": 3},
                          {"question": bad_question, "many": bad_parameter(-1)})
        for function in (solve, is_told):
            assert_first_told(self, function, {"question": QUESTION}, {"question": bad_question})
            for question in NO_TUPLES + [()]:
                assert_refused(self, BadQuestion, {"place": ()}, function, question)


if __name__ == "__main__":
    unittest.main()
