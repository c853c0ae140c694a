"""[1], [7] and the whole program: each module's answers used as another one's parameters, as a user would."""

import random
import unittest
from fractions import Fraction

from deedseen.answers import answer, watched
from deedseen.aparts import apart, is_apart
from deedseen.checking import is_hedge, is_paper
from deedseen.denials import is_denials, items_of, least_denials, without
from deedseen.doubles import is_two_worlds, two_worlds
from deedseen.drawings import need_drawing
from deedseen.errors import DeedError, NoRow, TooGreat
from deedseen.hanging import hanging, is_hanging
from deedseen.hiddenworlds import world_hidden, world_shown
from deedseen.hiding import hidden
from deedseen.questions import goal, need_question, things_of
from deedseen.roads import cut_drawing, is_open_road, open_road, shut
from deedseen.rules import beside, forget, set_for_seen, undo
from deedseen.seeing import back_road, least_seen, moved_all, moved_question, told_with
from deedseen.sessions import begun, played, session_step
from deedseen.solving import is_told, solve, solving_after
from deedseen.steps import lots_of
from deedseen.tables import need_table
from deedseen.texts import (drawing_text, hedge_text, paper_text, question_text, read_drawing, read_hedge, read_paper,
                            read_question, read_world, world_text)
from deedseen.tries import cheapest_try, is_cheapest_try, told_by, with_tried
from deedseen.values import by_paper, lean, step_factors
from deedseen.watching import cheapest_watch, hidden_all, is_cheapest_watch
from deedseen.worlds import factor, is_open, need_world, set_chances
from tests.helping import EXAMPLE, assert_plain, refusal, some_drawing, some_of, some_world
from tests.plain import plain_answer, some_hedged, some_question
from tests.plain_rules import further_things

QUESTION = (EXAMPLE, (), (0,), (), (2,))
HARDER = ((3, ((0, 1), (0, 2), (1, 2)), ((0, 2),)), (), (0,), (), (2,))


def questions(chooser, many, most=5):
    for at in range(many):
        count = chooser.randint(2, most)
        yield some_hedged(chooser, count)[0] if at % 2 else some_question(chooser, count, 3)


class WholeTest(unittest.TestCase):

    def use_paper(self, chooser, question, paper):
        """A paper written, read back, judged, made lean, used for the answer from a table."""
        read = read_paper(paper_text(paper))
        self.assertEqual(read, paper)
        self.assertIs(is_paper(question, read), True)
        self.assertEqual(lots_of(question, read[1])[-1], goal(question, read[0]))
        world = some_world(chooser, question[0], least=1)
        self.assertIs(is_open(question[0], world, question[1]), True)
        table = need_table(question, (world[0], watched(question, world)))
        told = answer(question, world)
        self.assertEqual(by_paper(question, read, table), told)
        self.assertEqual(by_paper(question, lean(question, read), table), told)
        self.assertEqual(step_factors(question, read[1], table)[-1],
                         factor(question[0], world, goal(question, read[0])))
        plain = [above / below for above, below in plain_answer(question, world).values()]
        self.assertEqual([Fraction(*chance) for chance in told], plain)

    def use_hedge(self, question, hedge):
        """A hedge written, read back, judged, made to two worlds, which are written, read back, judged."""
        read = read_hedge(hedge_text(hedge))
        self.assertEqual(read, hedge)
        self.assertIs(is_hedge(question, read), True)
        try:
            one, other, row = two_worlds(question, read)
        except TooGreat:
            self.assertGreater(question[0][0], 4)
            return
        drawing = question[0]
        one, other = [read_world(drawing, world_text(world)) for world in (one, other)]
        self.assertIs(is_two_worlds(question, (one, other, row)), True)
        self.assertEqual(watched(question, one), watched(question, other))
        self.assertNotEqual(answer(question, one), answer(question, other))
        # No paper tells both: whatever is told of one table is told of the other one, too.
        self.assertIs(is_paper(question, solve(with_tried(question, question[2]))[1]), False)

    def use(self, chooser, question):
        read = read_question(question_text(question))
        self.assertEqual(read, question)
        self.assertEqual(read_drawing(drawing_text(read[0])), question[0])
        word, shown = told = solve(read)
        self.assertEqual(told, solve(question))
        state = solving_after(question, 1000)
        if word == "told":
            self.assertEqual(state[:2], shown)
            self.use_paper(chooser, question, shown)
        else:
            self.assertEqual(state[0], shown[0])
            self.use_hedge(question, shown)
        return word

    def test_solved_written_read_judged_used(self):
        chooser = random.Random(1)
        found = {self.use(chooser, question) for question in questions(chooser, 120)}
        self.assertEqual(found, {"told", "not"})

    def test_moved(self):
        chooser = random.Random(2)
        many = 0
        for question in questions(chooser, 200):
            moved = solve(question)[1][0]
            self.assertEqual(tuple(sorted(moved)), moved_all(question))
            there = moved_question(question, moved)
            self.assertEqual(moved_all(there), ())
            self.assertEqual(is_told(there), is_told(question))
            self.assertEqual(goal(there, ()), goal(question, moved))
            if moved:
                many += 1
                self.use(chooser, there)
                world = some_world(chooser, question[0], least=1)
                self.assertEqual(answer(there, world), answer(question, world))
            for thing in there[3]:
                road = back_road(there, thing)
                self.assertEqual(set_for_seen(there, thing), (False, road))
                self.assertIs(is_apart(there, "set", thing, apart(there, "set", thing)), True)
        self.assertGreater(many, 5)

    def test_more_seen(self):
        chooser = random.Random(3)
        for question in questions(chooser, 60):
            try:
                more = least_seen(question)
            except NoRow:
                self.assertIs(is_told(question), False)
                continue
            self.assertIs(told_with(question, more), True)
            drawing, tried, by_hand, seen, asked = question
            there = need_question((drawing, tried, by_hand, tuple(sorted(seen + more)), asked))
            self.assertEqual(self.use(chooser, there), "told")

    def test_tried(self):
        chooser = random.Random(4)
        for question in questions(chooser, 60):
            prices = tuple(chooser.randint(0, 3) for _ in question[2])
            tried, paper, hedges = told = cheapest_try(question, prices)
            self.assertIs(is_cheapest_try(question, prices, told), True)
            there = with_tried(question, tried)
            self.assertEqual(told_by(question, tried), ("told", paper))
            self.use_paper(chooser, there, read_paper(paper_text(paper)))
            for hedge in hedges:
                self.use_hedge(with_tried(question, ()), hedge)

    def test_denied(self):
        chooser = random.Random(5)
        for question in questions(chooser, 60):
            items = list(items_of(question[0]))
            chooser.shuffle(items)
            denied, paper, hedges = told = least_denials(question, tuple(items))
            self.assertIs(is_denials(question, tuple(items), told), True)
            there = without(question, denied)
            self.assertEqual(denied == (), is_told(question))
            self.assertEqual(self.use(chooser, there), "told")
            self.use_paper(chooser, there, paper)
            for at, hedge in enumerate(hedges):
                place = items.index(denied[at])
                self.use_hedge(without(question, denied[:at] + tuple(items[place + 1:])), hedge)

    def test_hidden(self):
        chooser = random.Random(6)
        for question in questions(chooser, 80):
            others = further_things(question)
            lot = some_of(chooser, others)
            there = hidden_all(question, lot)
            self.assertTrue(is_told(question) or not is_told(there))
            self.use(chooser, there)
            prices = tuple(chooser.randint(0, 3) for _ in others)
            try:
                told = cheapest_watch(question, prices)
            except NoRow:
                self.assertIs(is_told(question), False)
                continue
            self.assertIs(is_cheapest_watch(question, prices, told), True)
            kept, paper, denials = told
            self.use_paper(chooser, hidden_all(question, tuple(one for one in others if one not in kept)), paper)
            for less, hedge in denials:
                self.use_hedge(hidden_all(question, tuple(one for one in others if one not in less)), hedge)

    def test_worlds_of_a_hedge_with_the_thing_shown_again(self):
        """What is not told without a thing has two worlds with it, alike in all but this thing."""
        chooser = random.Random(7)
        many = 0
        for _ in range(150):
            question = some_question(chooser, 4, 3)
            for thing in further_things(question):
                there = hidden_all(question, (thing,))
                word, shown = solve(there)
                if word == "not":
                    one, other, _ = two_worlds(there, shown)
                    if refusal(world_shown, question[0], one, thing) is None:
                        many += 1
                        worlds = [world_shown(question[0], world, thing) for world in (one, other)]
                        for world, less in zip(worlds, (one, other)):
                            need_world(question[0], world)
                            self.assertEqual(answer(question, world), answer(there, less))
                        self.assertNotEqual(answer(question, worlds[0]), answer(question, worlds[1]))
        self.assertGreater(many, 10)

    def test_worlds_hidden_and_asked(self):
        chooser = random.Random(8)
        for question in questions(chooser, 80, 4):
            world = some_world(chooser, question[0], least=1, most=2)
            there = question
            for thing in reversed(further_things(question)):
                if refusal(world_hidden, there[0], world, thing) is None:
                    world = read_world(hidden(there[0], thing), world_text(world_hidden(there[0], world, thing)))
                    there = hidden_all(there, (thing,))
            word, shown = solve(there)
            if word == "told" and is_open(there[0], world, there[1]):
                table = need_table(there, (world[0], watched(there, world)))
                self.assertEqual(by_paper(there, shown, table), answer(there, world))

    def test_in_a_session(self):
        chooser = random.Random(9)
        for question in questions(chooser, 50):
            ask = ("ask",) + question[1:]
            (state, _), told = session_step(begun(question[0]), ask), solve(question)
            self.assertEqual(session_step(state, ask), (state, told))
            items = items_of(question[0])
            denied = least_denials(question, items)[0]
            deeds = []
            for word, number in denied:
                if word == "arrow":
                    deeds.append(("unarrow",) + question[0][1][number])
                else:
                    deeds.append(("uncause", question[0][2][number]))
            there, answers = played(question[0], tuple(deeds) + (ask,))
            self.assertEqual(there[0], without(question, denied)[0])
            self.assertEqual(answers[-1], solve(without(question, denied)))
            self.assertEqual(answers[-1][0], "told")
            others = further_things(question)
            hides = tuple(("hide", thing) for thing in reversed(others))
            left = hidden_all(question, others)
            there, answers = played(question[0], hides + (("ask",) + left[1:],))
            self.assertEqual((there[0], answers[-1]), (left[0], solve(left)))
            back, _ = played(question[0], hides + (("undo",),) * len(hides))
            self.assertEqual(back, begun(question[0]))

    def test_rules_roads_and_what_hangs_together(self):
        chooser = random.Random(10)
        functions = {"forget": forget, "set": set_for_seen, "undo": undo}
        for question in questions(chooser, 100):
            drawing, _, by_hand, seen, asked = question
            for rule, lot in (("forget", seen), ("set", seen), ("undo", by_hand)):
                for thing in lot:
                    same, road = functions[rule](question, thing)
                    need_question(beside(question, rule, thing))
                    if same:
                        self.assertIs(refusal(apart, question, rule, thing)[0], NoRow)
                        continue
                    if rule != "undo":
                        known = tuple(one for one in sorted(by_hand + seen) if one != thing)
                        ends = drawing, by_hand, (thing,) if rule == "set" else (), thing, asked, known
                        self.assertEqual(open_road(*ends), road)
                        self.assertIs(is_open_road(*ends, road), True)
                        self.assertIs(shut(*ends), False)
                        if refusal(hanging, *ends) is None:
                            world = hanging(*ends)
                            need_world(cut_drawing(*ends[:3]), world)
                            self.assertIs(is_hanging(*ends, world), True)
                    if refusal(apart, question, rule, thing) is None:
                        world, row = apart(question, rule, thing)
                        there = read_world(drawing, world_text(world))
                        self.assertIs(is_apart(question, rule, thing, (there, row)), True)

    def test_one_user(self):
        """The example of the document, from beginning to end."""
        drawing = read_drawing("drawing 3 ( arrow 0 1 arrow 1 2 ) ( cause { 0 2 } )")
        self.assertEqual(drawing, EXAMPLE)
        question = need_question((drawing, (), (0,), (), (2,)))
        self.assertEqual(things_of(question), (0, 2))
        word, paper = solve(question)
        self.assertEqual(word, "told")
        table = ((2, 2, 2), ((1, 8),) * 8)
        self.assertEqual(by_paper(question, read_paper(paper_text(paper)), table), ((1, 2),) * 4)
        state, answers = played(drawing, (("arrow", 0, 2), ("ask",) + question[1:]))
        self.assertEqual(answers, (None, ("not", ((), (0, 2), (2,)))))
        harder = (state[0],) + question[1:]
        self.assertEqual(harder, HARDER)
        one, other, row = two_worlds(harder, read_hedge(hedge_text(answers[1][1])))
        self.assertIs(is_two_worlds(harder, (one, other, row)), True)
        for world in (one, other):
            self.assertEqual(sum(Fraction(*chance) for chance in set_chances(harder[0], world, ((0, 0),))), 1)
        self.assertEqual(cheapest_try(harder, (3,))[0], (0,))
        self.assertEqual(cheapest_watch(question, (3,))[0], (1,))
        self.assertEqual(least_denials(harder, items_of(harder[0]))[0], (("cause", 0),))

    def test_equal_calls_return_equal_values_and_change_nothing(self):
        chooser = random.Random(11)
        for question in questions(chooser, 40):
            copy = read_question(question_text(question))
            first = solve(question), moved_all(question), refusal(least_seen, question)
            self.use(chooser, question)
            self.assertEqual((solve(copy), moved_all(copy), refusal(least_seen, copy)), first)
            self.assertEqual(question, copy)
            assert_plain(self, first[0])

    def test_all_errors_are_deed_errors_and_value_errors(self):
        for function, parameters in [(solve, (None,)), (need_drawing, (None,)), (hidden, ((1, (), ()), 0)),
                                     (apart, (QUESTION, "undo", 2)), (cheapest_try, (QUESTION, None)),
                                     (least_denials, (QUESTION, None)), (played, (EXAMPLE, None)),
                                     (session_step, (None, None)), (back_road, (QUESTION, 0))]:
            with self.assertRaises(DeedError) as caught:
                function(*parameters)
            self.assertEqual(type(caught.exception).__bases__, (DeedError,))
            self.assertIsInstance(caught.exception, ValueError)

    def test_greatest_drawings(self):
        chooser = random.Random(12)
        for _ in range(4):
            drawing = some_drawing(chooser, 10)
            question = (drawing, (), (0, 2), (4,), (9,))
            told = solve(question)
            self.assertIs((is_paper if told[0] == "told" else is_hedge)(question, told[1]), True)
            prices = (1, 2)
            self.assertIs(is_cheapest_try(question, prices, cheapest_try(question, prices)), True)
            order = items_of(drawing)
            self.assertIs(is_denials(question, order, least_denials(question, order)), True)
            prices = (1,) * 6
            if refusal(cheapest_watch, question, prices) is None:
                self.assertIs(is_cheapest_watch(question, prices, cheapest_watch(question, prices)), True)


if __name__ == "__main__":
    unittest.main()
