"""[45], [46]: drawings without some items, and what must be denied by an order."""

import random
import unittest
from itertools import permutations

from deedseen import denials
from deedseen.checking import is_hedge, is_paper
from deedseen.errors import BadDrawing, BadParameter, BadQuestion
from deedseen.questions import need_question
from deedseen.solving import is_told, solve
from tests.helping import (BAD_DRAWING, EXAMPLE, HOSTILE, NO_TUPLES, all_arrows, all_causes, all_drawings,
                           assert_first_told, assert_plain, assert_refused, bad_parameter, some_drawing, some_of,
                           subsets)
from tests.plain import all_hedges, plain_is_paper, some_hedged, some_question
from tests.plain_hiding import plain_without
from tests.plain_rules import plain_told, small_questions

BAD_QUESTION = ((EXAMPLE, (), (0,), (0,), (2,)), BadQuestion, {"place": (3,)})
PAIR = ((2, ((0, 1),), ((0, 1),)), (), (0,), (), (1,))
ARROW, CAUSE = ("arrow", 0), ("cause", 0)


def plain_items(drawing):
    return tuple([("arrow", at) for at in range(len(drawing[1]))] + [("cause", at) for at in range(len(drawing[2]))])


def plain_denied(question, order):
    """The order gone through by the words: what is let is kept, all else is denied."""
    let = []
    for item in order:
        if plain_told(plain_without(question, [other for other in order if other not in let + [item]])):
            let.append(item)
    return tuple(item for item in order if item not in let)


def question_at(question, order, denied, item):
    """The question with a denied item, and what is let ahead of it, all else being denied."""
    let = [other for other in order[:order.index(item)] if other not in denied] + [item]
    return plain_without(question, [other for other in order if other not in let])


def plain_is_denials(question, order, value):
    denied, paper, hedges = value
    if list(denied) != [item for item in order if item in denied] or len(hedges) != len(denied):
        return False
    if not plain_is_paper(plain_without(question, denied), paper):
        return False
    return all(hedge in all_hedges(question_at(question, order, denied, item))
               for item, hedge in zip(denied, hedges))


class ItemsTest(unittest.TestCase):

    def test_all_small_drawings(self):
        for drawing in [(1, (), ())] + all_drawings(2) + all_drawings(3):
            told = denials.items_of(drawing)
            self.assertEqual(told, plain_items(drawing))
            assert_plain(self, told)

    def test_the_greatest_drawing(self):
        drawing = (10, all_arrows(10), all_causes(10)[:20])
        self.assertEqual(denials.items_of(drawing=drawing), plain_items(drawing))
        self.assertEqual(len(denials.items_of(drawing)), 65)

    def test_refused(self):
        assert_first_told(self, denials.items_of, {"drawing": EXAMPLE}, {"drawing": BAD_DRAWING})
        for drawing in NO_TUPLES + [()]:
            assert_refused(self, BadDrawing, {"place": ()}, denials.items_of, drawing)


class WithoutTest(unittest.TestCase):

    def test_all_small_questions(self):
        chooser = random.Random(45)
        for question in small_questions():
            if chooser.random() < 0.3:
                items = plain_items(question[0])
                for some in subsets(items):
                    told = denials.without(question, some)
                    self.assertEqual(told, plain_without(question, some))
                    self.assertEqual(denials.without(question, some[::-1]), told)
                    self.assertIs(need_question(told), told)
                self.assertEqual(denials.without(question, ()), question)
                self.assertEqual(denials.without(question, items)[0], (question[0][0], (), ()))

    def test_in_any_order(self):
        chooser = random.Random(451)
        for _ in range(100):
            question = some_question(chooser, chooser.choice([4, 7, 10]))
            items = plain_items(question[0])
            some = chooser.sample(items, chooser.randint(0, len(items)))
            told = denials.without(question, tuple(some))
            self.assertEqual(told, plain_without(question, some))
            assert_plain(self, told)
            self.assertEqual(denials.without(question, tuple(sorted(some))), told)

    def test_what_is_told_stays_told(self):
        chooser = random.Random(452)
        found = set()
        for _ in range(300):
            question = some_question(chooser, chooser.choice([3, 4, 5]), 3)
            items = plain_items(question[0])
            some = tuple(chooser.sample(items, chooser.randint(0, len(items))))
            before, behind = is_told(question), is_told(denials.without(question, some))
            found.add((before, behind))
            self.assertTrue(behind or not before)
        self.assertEqual(found, {(True, True), (False, True), (False, False)})

    def test_without_causes_and_without_arrows_all_is_told(self):
        chooser = random.Random(453)
        questions = list(small_questions())[::5] + [some_hedged(chooser, 5)[0] for _ in range(40)]
        for question in questions:
            items = plain_items(question[0])
            for word in ("arrow", "cause"):
                self.assertIs(is_told(denials.without(question, tuple(one for one in items if one[0] == word))), True)

    def test_causes_move_up(self):
        question = ((3, ((0, 1), (1, 2)), ((0, 1), (0, 2), (1, 2))), (0,), (0,), (1,), (2,))
        told = denials.without(question=question, denied=(("cause", 1), ("arrow", 0), ("cause", 0)))
        self.assertEqual(told, ((3, ((1, 2),), ((1, 2),)), (0,), (0,), (1,), (2,)))

    def test_no_items(self):
        question = ((3, ((0, 1), (1, 2)), ((0, 2),)), (), (0,), (), (2,))
        for item in NO_TUPLES + [(), ("arrow",), ("arrow", 0, 0), ["arrow", 0], ("arrow", 2), ("arrow", -1),
                                 ("cause", 1), ("cause", -1), ("arrow", False), ("cause", 0.0), ("arrow", "0"),
                                 ("arrow", None), ("Arrow", 0), ("", 0), ("arrows", 0), (b"arrow", 0), (0, "arrow"),
                                 (None, 0), (HOSTILE, 0), ("arrow", HOSTILE), ("arrow", 10 ** 5000), ("arrow", (0,))]:
            for denied in [(item,), (("arrow", 1), item), (item, ("cause", 0))]:
                assert_refused(self, BadParameter, {"value": denied}, denials.without, question, denied)
        for denied in NO_TUPLES + [[], ("arrow", 0), (ARROW, ARROW), (CAUSE, ARROW, CAUSE), [ARROW]]:
            assert_refused(self, BadParameter, {"value": denied}, denials.without, question, denied)

    def test_order(self):
        assert_first_told(self, denials.without, {"question": PAIR, "denied": (ARROW,)},
                          {"question": BAD_QUESTION, "denied": bad_parameter((("arrow", 1),))})
        for question in NO_TUPLES + [()]:
            assert_refused(self, BadQuestion, {"place": ()}, denials.without, question, ())


class DenialsTest(unittest.TestCase):

    def compare(self, question, order):
        told = denials.least_denials(question, order)
        assert_plain(self, told)
        denied, paper, hedges = told
        self.assertEqual(denied, plain_denied(question, order))
        self.assertIs(is_paper(plain_without(question, denied), paper), True)
        self.assertEqual(len(hedges), len(denied))
        for item, hedge in zip(denied, hedges):
            self.assertIs(is_hedge(question_at(question, order, denied, item), hedge), True)
            # With any one of them back it is not told.
            self.assertIs(plain_told(plain_without(question, [other for other in denied if other != item])), False)
        self.assertIs(denials.is_denials(question, order, told), True)
        return told

    def test_all_questions_of_two_things_in_all_orders(self):
        for drawing in all_drawings(2):
            for question in small_questions():
                if question[0] == drawing:
                    for order in permutations(plain_items(drawing)):
                        self.compare(question, order)

    def test_all_questions_of_three_things_in_all_orders(self):
        many = 0
        for question in small_questions():
            if question[0][0] == 3 and len(question[0][2]) <= 2:
                if plain_told(question):
                    # Nothing is denied, whatever the order.
                    for order in permutations(plain_items(question[0])):
                        self.assertEqual(denials.least_denials(question, order)[::2], ((), ()))
                    self.compare(question, order)
                else:
                    for order in permutations(plain_items(question[0])):
                        many += bool(self.compare(question, order)[0])
        self.assertGreater(many, 1000)

    def test_questions_of_three_things_with_more_causes(self):
        # There are up to 5040 orders: some of them.
        chooser = random.Random(465)
        for question in small_questions():
            if question[0][0] == 3 and len(question[0][2]) > 2:
                items = list(plain_items(question[0]))
                for _ in range(2 if plain_told(question) else 6):
                    chooser.shuffle(items)
                    self.compare(question, tuple(items))

    def test_all_orders_of_seven_items(self):
        question = ((3, all_arrows(3), all_causes(3)), (), (0,), (), (2,))
        found = set()
        for order in permutations(plain_items(question[0])):
            denied = denials.least_denials(question, order)[0]
            self.assertEqual(denied, plain_denied(question, order))
            found.add(tuple(sorted(denied)))
        self.assertGreater(len(found), 1)

    def test_drawn_questions_of_four_things(self):
        chooser = random.Random(46)
        found = set()
        for at in range(90):
            question = some_hedged(chooser, 4)[0] if at % 5 else some_question(chooser, 4)
            items = list(plain_items(question[0]))
            lots_denied = set()
            for _ in range(6):
                chooser.shuffle(items)
                denied, _, _ = self.compare(question, tuple(items))
                lots_denied.add(tuple(sorted(denied)))
            found.add(len({len(lot) for lot in lots_denied}))
        # In unlike orders lots of unlike sizes are denied.
        self.assertIn(2, found)

    def test_arrows_first_and_causes_first(self):
        chooser = random.Random(461)
        for _ in range(60):
            question = some_hedged(chooser, chooser.choice([3, 4, 5]))[0]
            arrows = [item for item in plain_items(question[0]) if item[0] == "arrow"]
            causes = [item for item in plain_items(question[0]) if item[0] == "cause"]
            chooser.shuffle(arrows)
            chooser.shuffle(causes)
            denied, _, _ = self.compare(question, tuple(arrows + causes))
            self.assertEqual({item[0] for item in denied}, {"cause"})
            denied, _, _ = self.compare(question, tuple(causes + arrows))
            self.assertEqual({item[0] for item in denied}, {"arrow"})

    def test_the_greatest_drawing(self):
        chooser = random.Random(462)
        question = ((10, all_arrows(10), some_of(chooser, all_causes(10), 20)), (), (0, 3), (5,), (8, 9))
        items = list(plain_items(question[0]))
        for _ in range(3):
            chooser.shuffle(items)
            order = tuple(items)
            told = denials.least_denials(question, order)
            self.assertIs(denials.is_denials(question, order, told), True)
            self.assertIs(is_told(denials.without(question, told[0])), True)
            for item in told[0]:
                back = tuple(other for other in told[0] if other != item)
                self.assertIs(is_told(denials.without(question, back)), False)

    def test_nothing_to_be_denied(self):
        self.assertEqual(denials.least_denials(((1, (), ()), (), (), (), (0,)), ())[::2], ((), ()))
        told = self.compare((EXAMPLE, (), (0,), (), (2,)), plain_items(EXAMPLE))
        self.assertEqual(told[::2], ((), ()))

    def test_example(self):
        for order, item in [((ARROW, CAUSE), CAUSE), ((CAUSE, ARROW), ARROW)]:
            told = denials.least_denials(question=PAIR, order=order)
            self.assertEqual(told[0], (item,))
            self.assertEqual(told[2], (((), (0, 1), (1,)),))
            self.assertIs(denials.is_denials(question=PAIR, order=order, value=told), True)
            self.compare(PAIR, order)

    def test_no_orders(self):
        question = ((3, ((0, 1), (1, 2)), ((0, 2),)), (), (0,), (), (2,))
        items = plain_items(question[0])
        bad = [items[:-1], items[1:], (), items + items[:1], items + (("arrow", 2),), items + (("cause", 1),),
               items[:2] + items[:1], (("arrow", 2),) + items[1:], (("arrow", False),) + items[1:],
               items[:2] + (("cause", -1),), items[:2] + (HOSTILE,), (HOSTILE,) * 3, list(items),
               (list(items[0]),) + items[1:], items[:2] + (("cause", None),), items * 2, (items,)]
        for order in NO_TUPLES + bad:
            assert_refused(self, BadParameter, {"value": order}, denials.least_denials, question, order)
            assert_refused(self, BadParameter, {"value": order}, denials.is_denials, question, order, None)
        for order in permutations(items):
            self.compare(question, order)

    def test_order_of_errors(self):
        wrong = {"question": BAD_QUESTION, "order": bad_parameter((ARROW,))}
        assert_first_told(self, denials.least_denials, {"question": PAIR, "order": (ARROW, CAUSE)}, wrong)
        assert_first_told(self, denials.is_denials, {"question": PAIR, "order": (ARROW, CAUSE), "value": None}, wrong)
        for function, further in [(denials.least_denials, ()), (denials.is_denials, (None,))]:
            for question in NO_TUPLES + [()]:
                assert_refused(self, BadQuestion, {"place": ()}, function, question, None, *further)


class IsDenialsTest(unittest.TestCase):

    def bent(self, chooser, question, order, value):
        """Values that are much like a right one."""
        denied, paper, hedges = value
        items = plain_items(question[0])
        told = [(denied[::-1], paper, hedges), (denied[::-1], paper, hedges[::-1]), (denied, paper, hedges[::-1]),
                (denied, paper, hedges[:-1]), (denied, paper, hedges + hedges[:1]), (denied, paper, ()),
                (denied[:-1], paper, hedges[:-1]), (denied[1:], paper, hedges[1:]), ((), paper, ()),
                (denied + denied[:1], paper, hedges + hedges[:1])]
        for item in items:
            if item not in denied:
                more = tuple(other for other in order if other in denied + (item,))
                right = solve(plain_without(question, more))[1]
                told += [(more, right, hedges), (more, right, hedges + hedges[:1])]
        moved, steps = paper
        told += [(denied, (moved, steps + (("join", (len(steps) - 1,)),)), hedges), (denied, (moved, steps[:-1]), hedges)]
        for at, item in enumerate(denied):
            every = all_hedges(question_at(question, order, denied, item))
            moved, great, small = hedges[at]
            for hedge in chooser.sample(every, min(3, len(every))) + [(moved, small, great), (moved, great[1:], small)]:
                told.append((denied, paper, hedges[:at] + (hedge,) + hedges[at + 1:]))
        return told

    def test_bent_values(self):
        chooser = random.Random(463)
        found = {True: 0, False: 0}
        for _ in range(60):
            question = some_hedged(chooser, chooser.choice([2, 3, 4]))[0]
            order = list(plain_items(question[0]))
            chooser.shuffle(order)
            order = tuple(order)
            for value in self.bent(chooser, question, order, denials.least_denials(question, order)):
                plain = plain_is_denials(question, order, value)
                self.assertIs(denials.is_denials(question, order, value), plain)
                found[plain] += 1
        self.assertGreater(min(found.values()), 100)

    def test_what_another_order_denies(self):
        chooser = random.Random(464)
        for _ in range(60):
            question = some_hedged(chooser, chooser.choice([3, 4]))[0]
            order = list(plain_items(question[0]))
            chooser.shuffle(order)
            other = list(order)
            chooser.shuffle(other)
            told = denials.least_denials(question, tuple(other))
            self.assertIs(denials.is_denials(question, tuple(order), told),
                          plain_is_denials(question, tuple(order), told))

    def test_values_of_all_kinds(self):
        denied, paper, hedges = told = denials.least_denials(PAIR, (ARROW, CAUSE))
        for value in NO_TUPLES + [(), told[:2], told + ((),), list(told), (HOSTILE,) * 3, (HOSTILE, paper, hedges),
                                  (denied, HOSTILE, hedges), (denied, paper, HOSTILE), (denied, paper, (HOSTILE,)),
                                  (denied, paper, list(hedges)), (denied, paper, hedges + (None,)),
                                  (list(denied), paper, hedges), ((list(CAUSE),), paper, hedges),
                                  ((("cause", False),), paper, hedges), ((("cause", 0.0),), paper, hedges),
                                  ((("cause", 1),), paper, hedges), ((HOSTILE,), paper, hedges),
                                  ((("cause", HOSTILE),), paper, hedges), (CAUSE, paper, hedges),
                                  ((CAUSE, CAUSE), paper, hedges * 2), ((CAUSE, ARROW), paper, hedges * 2),
                                  ((ARROW, CAUSE), paper, hedges * 2), ((ARROW,), paper, hedges), (paper, denied, hedges),
                                  (denied, list(paper), hedges), (denied, paper, hedges[0]), (None, paper, hedges)]:
            self.assertIs(denials.is_denials(PAIR, (ARROW, CAUSE), value), False)
        self.assertIs(denials.is_denials(PAIR, (ARROW, CAUSE), told), True)
        self.assertIs(denials.is_denials(PAIR, (CAUSE, ARROW), told), False)


if __name__ == "__main__":
    unittest.main()
