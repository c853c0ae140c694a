"""[37], [38]: the question beside another one, and when both answers are the same."""

import random
import unittest

from deedseen import rules
from deedseen.aparts import apart, is_apart
from deedseen.checking import may_move
from deedseen.errors import BadParameter, BadQuestion
from deedseen.questions import need_question
from deedseen.roads import open_road
from tests.helping import (EXAMPLE, HOSTILE, NO_INTEGERS, NO_STRINGS, NO_TUPLES, assert_first_told, assert_plain,
                           assert_refused, bad_parameter, some_world)
from tests.plain import some_question
from tests.plain_rules import (leads_down, less, lot_of, plain_beside, plain_rule, rules_of, small_questions,
                               unlike_rows)

BAD_QUESTION = ((EXAMPLE, (), (0,), (0,), (2,)), BadQuestion, {"place": (3,)})
FUNCTIONS = {"forget": rules.forget, "set": rules.set_for_seen, "undo": rules.undo}
SEEN_BOTH = (EXAMPLE, (), (), (0, 1), (2,))
NO_RULES = NO_STRINGS + ["", "Forget", "forget ", "seen", "do", "Set", "UNDO", "unset", b"set", HOSTILE]


class BesideTest(unittest.TestCase):

    def test_all_small_questions(self):
        for question in small_questions():
            for rule, thing in rules_of(question):
                told = rules.beside(question, rule, thing)
                self.assertEqual(told, plain_beside(question, rule, thing))
                self.assertIs(need_question(told), told)

    def test_drawn_questions(self):
        chooser = random.Random(37)
        for _ in range(200):
            question = some_question(chooser, chooser.randint(4, 10))
            for rule, thing in rules_of(question):
                self.assertEqual(rules.beside(question, rule, thing), plain_beside(question, rule, thing))

    def test_each_rule(self):
        drawing = (6, ((0, 5), (1, 5)), ((2, 3),))
        question = (drawing, (1,), (1, 3), (0, 2), (5,))
        self.assertEqual(rules.beside(question=question, rule="forget", thing=0), (drawing, (1,), (1, 3), (2,), (5,)))
        self.assertEqual(rules.beside(question, "set", 2), (drawing, (1,), (1, 2, 3), (0,), (5,)))
        self.assertEqual(rules.beside(question, "undo", 3), (drawing, (1,), (1,), (0, 2), (5,)))
        # What is tried is set: it is let alone with it.
        self.assertEqual(rules.beside(question, "undo", 1), (drawing, (), (3,), (0, 2), (5,)))

    def test_things_that_the_rule_does_not_take(self):
        drawing = (6, ((0, 5), (1, 5)), ((2, 3),))
        question = (drawing, (1,), (1, 3), (0, 2), (5,))
        wrong = {"forget": (1, 3, 4, 5), "set": (1, 3, 4, 5), "undo": (0, 2, 4, 5)}
        for rule, things in wrong.items():
            for thing in things + (6, -1, 10 ** 5000) + tuple(NO_INTEGERS):
                assert_refused(self, BadParameter, {"value": thing}, rules.beside, question, rule, thing)
                assert_refused(self, BadParameter, {"value": thing}, FUNCTIONS[rule], question, thing)
                assert_refused(self, BadParameter, {"value": thing}, apart, question, rule, thing)
                assert_refused(self, BadParameter, {"value": thing}, is_apart, question, rule, thing, None)

    def test_what_is_no_rule(self):
        for rule in NO_RULES:
            # Whatever the thing is, the rule is told ahead of it.
            for thing in (0, 2, 9, None, HOSTILE):
                assert_refused(self, BadParameter, {"value": rule}, rules.beside, SEEN_BOTH, rule, thing)
                assert_refused(self, BadParameter, {"value": rule}, apart, SEEN_BOTH, rule, thing)
                assert_refused(self, BadParameter, {"value": rule}, is_apart, SEEN_BOTH, rule, thing, HOSTILE)

    def test_order(self):
        wrong = {"question": BAD_QUESTION, "rule": bad_parameter("seen"), "thing": bad_parameter(2)}
        right = {"question": SEEN_BOTH, "rule": "forget", "thing": 0}
        assert_first_told(self, rules.beside, right, wrong)
        assert_first_told(self, apart, right, wrong)
        assert_first_told(self, is_apart, {**right, "value": None}, wrong)
        for function in (rules.forget, rules.set_for_seen):
            assert_first_told(self, function, {"question": SEEN_BOTH, "thing": 0},
                              {"question": BAD_QUESTION, "thing": bad_parameter(2)})
        assert_first_told(self, rules.undo, {"question": (EXAMPLE, (), (0,), (), (2,)), "thing": 0},
                          {"question": BAD_QUESTION, "thing": bad_parameter(2)})
        for function in (rules.beside, apart):
            for question in NO_TUPLES + [()]:
                assert_refused(self, BadQuestion, {"place": ()}, function, question, "set", 0)


class RulesTest(unittest.TestCase):

    def compare(self, question, chooser=None):
        """Each rule against the words; where it holds, by plain sums in drawn positive worlds. What was told."""
        found = []
        for rule, thing in rules_of(question):
            told = FUNCTIONS[rule](question, thing)
            self.assertEqual(told, plain_rule(question, rule, thing))
            assert_plain(self, told)
            self.assertIs(type(told[0]), bool)
            found.append((rule, told[0]))
            if told[0] and chooser:
                world = some_world(chooser, question[0], least=1)
                self.assertEqual(unlike_rows(question, rule, thing, world), [])
        return found

    def test_all_small_questions(self):
        chooser = random.Random(38)
        found = set()
        for question in small_questions():
            # TRIED is of no matter for an answer.
            found.update(self.compare(question, None if question[1] else chooser))
        self.assertEqual(found, {(rule, told) for rule in FUNCTIONS for told in (True, False)})

    def test_drawn_questions(self):
        chooser = random.Random(381)
        for count, many in ((4, 200), (5, 60)):
            for _ in range(many):
                self.compare(some_question(chooser, count, 3), chooser)

    def test_greater_questions(self):
        chooser = random.Random(382)
        for _ in range(40):
            self.compare(some_question(chooser, 6, 3))

    def test_by_set_it_is_a_move(self):
        chooser = random.Random(383)
        for _ in range(200):
            question = some_question(chooser, chooser.choice([4, 5, 6, 10]), 4)
            for thing in question[3]:
                self.assertIs(rules.set_for_seen(question, thing)[0], may_move(question, (), thing))

    def test_roads_told(self):
        """By the words, with the program's own roads: greater questions, too."""
        chooser = random.Random(384)
        for _ in range(200):
            question = some_question(chooser, chooser.choice([5, 7, 10]), 5)
            drawing, _, by_hand, seen, asked = question
            for rule, thing in rules_of(question):
                told, road = FUNCTIONS[rule](question, thing)
                if not told:
                    over, under = by_hand, (thing,) if rule == "set" else ()
                    if rule == "undo" and leads_down(drawing, less(by_hand, thing), thing, seen):
                        over = less(by_hand, thing)
                    known = less(lot_of(by_hand, seen), thing)
                    self.assertEqual(road, open_road(drawing, over, under, thing, asked, known))

    def test_example(self):
        self.assertEqual(rules.forget(question=SEEN_BOTH, thing=0), (False, ((0, 2), (0,))))
        self.assertEqual(rules.set_for_seen(question=SEEN_BOTH, thing=1), (True, None))
        self.assertEqual(rules.set_for_seen((EXAMPLE, (), (), (1,), (2,)), 1), (False, ((1, 0, 2), ("from", 0))))
        told = rules.undo(question=(EXAMPLE, (), (0,), (), (2,)), thing=0)
        self.assertEqual(told, (False, ((0, 1, 2), ("to", "to"))))

    def test_undo_of_what_leads_to_a_seen_thing(self):
        # The cause of 0 and 2 tells of 2 if 0 is let alone, and 1, which 0 leads to, is seen.
        drawing = (3, ((0, 1),), ((0, 2),))
        self.assertEqual(rules.undo((drawing, (), (0,), (1,), (2,)), 0), (False, ((0, 2), (0,))))
        # With nothing seen 0 tells nothing at all; nor if it does not lead to what is seen.
        self.assertEqual(rules.undo((drawing, (), (0,), (), (2,)), 0), (True, None))
        self.assertEqual(rules.undo(((3, (), ((0, 2),)), (), (0,), (1,), (2,)), 0), (True, None))
        self.assertEqual(rules.undo(((3, ((0, 1), (1, 2)), ()), (), (0,), (1,), (2,)), 0), (True, None))

    def test_undo_of_what_leads_to_a_seen_thing_through_set_ones(self):
        drawing = (4, ((0, 1), (1, 2)), ((0, 3),))
        self.assertEqual(rules.undo((drawing, (), (0,), (2,), (3,)), 0), (False, ((0, 3), (0,))))
        # The thing 1 is set: what 0 does goes no further.
        self.assertEqual(rules.undo((drawing, (), (0, 1), (2,), (3,)), 0), (True, None))
        # It is the rest of SET alone that is in the way, not the thing itself.
        self.assertEqual(rules.undo((drawing, (), (0, 1), (2,), (3,)), 1), (True, None))
        bound = (4, ((0, 1), (1, 2)), ((1, 3),))
        self.assertEqual(rules.undo((bound, (), (0, 1), (2,), (3,)), 1), (False, ((1, 3), (0,))))

    def test_what_is_tried_is_of_no_matter(self):
        chooser = random.Random(385)
        for _ in range(100):
            question = some_question(chooser, 5)
            untried = question[:1] + ((),) + question[2:]
            for rule, thing in rules_of(question):
                self.assertEqual(FUNCTIONS[rule](question, thing), FUNCTIONS[rule](untried, thing))


if __name__ == "__main__":
    unittest.main()
