"""[44]: questions without some things, and the cheapest things to be watched."""

import random
import unittest

from deedseen import watching
from deedseen.checking import is_hedge, is_paper
from deedseen.errors import BadLot, BadParameter, BadQuestion, NoRow, TooGreat
from deedseen.questions import need_question
from deedseen.solving import is_told, solve
from tests.helping import (EXAMPLE, HOSTILE, NO_TUPLES, all_arrows, all_causes, assert_first_told, assert_plain,
                           assert_refused, bad_lot, bad_parameter, refusal, some_of, subsets)
from tests.plain import all_hedges, plain_is_paper, some_question
from tests.plain_hiding import PlainTooGreat, plain_hidden_all, plain_left
from tests.plain_rules import further_things, plain_told, small_questions

BAD_QUESTION = ((EXAMPLE, (), (0,), (0,), (2,)), BadQuestion, {"place": (3,)})
QUESTION = (EXAMPLE, (), (0,), (), (2,))
# From 0 by 1, by 2 to 4, and 0 and 4 are bound: to watch 1 is enough, and so is 2.
CHAIN = ((5, ((0, 1), (1, 2), (2, 4), (3, 4)), ((0, 4),)), (), (0,), (), (4,))


def many_causes(count):
    """A question all of whose other things can be hidden, but that of 0 leaves so many causes."""
    pairs = tuple(cause for cause in all_causes(8) if len(cause) == 2 and 0 not in cause)
    return (10, ((0, 8), (0, 9)), pairs[:count - 1]), (), (8,), (), (9,)


class HiddenAllTest(unittest.TestCase):

    def compare(self, question):
        others = further_things(question)
        for lot in subsets(range(question[0][0])):
            if set(lot) <= set(others):
                try:
                    plain = plain_hidden_all(question, lot)
                except PlainTooGreat:
                    assert_refused(self, TooGreat, {"most": 20}, watching.hidden_all, question, lot)
                    continue
                told = watching.hidden_all(question, lot)
                self.assertEqual(told, plain)
                self.assertIs(need_question(told), told)
                assert_plain(self, told)
            else:
                assert_refused(self, BadParameter, {"value": lot}, watching.hidden_all, question, lot)

    def test_all_small_questions(self):
        for question in small_questions():
            self.compare(question)

    def test_drawn_questions(self):
        chooser = random.Random(44)
        for count in (4, 5, 6, 7):
            for _ in range(50):
                self.compare(some_question(chooser, count))
        for _ in range(10):
            count, arrows = 8, some_of(chooser, all_arrows(8))
            drawing = (count, arrows, some_of(chooser, all_causes(8), 20))
            self.compare((drawing, (), (0,), (), (7,)))

    def test_what_is_told_stays_told_with_more_watched(self):
        chooser = random.Random(441)
        found = set()
        for at in range(500):
            question = some_question(chooser, chooser.choice([4, 5]))
            others = further_things(question)
            told = {lot: is_told(watching.hidden_all(question, lot)) for lot in subsets(others)}
            for lot in told:
                for thing in lot:
                    if told[lot]:
                        self.assertTrue(told[tuple(one for one in lot if one != thing)])
            found.add((told[()], told[others]))
        self.assertEqual(found, {(True, True), (True, False), (False, False)})

    def test_numbers_told_anew(self):
        drawing = (7, ((0, 2), (2, 4), (4, 6)), ((0, 1), (3, 5)))
        question = (drawing, (4,), (2, 4), (5,), (6,))
        told = watching.hidden_all(question=question, lot=(0, 1, 3))
        self.assertEqual(told, ((4, ((0, 1), (1, 3)), ()), (1,), (0, 1), (2,), (3,)))

    def test_examples(self):
        self.assertEqual(watching.hidden_all(QUESTION, (1,)), ((2, ((0, 1),), ((0, 1),)), (), (0,), (), (1,)))
        question = ((3, ((0, 1), (1, 2)), ((0, 1), (1, 2))), (), (0,), (), (2,))
        self.assertEqual(watching.hidden_all(question, (1,)), ((2, ((0, 1),), ((0, 1),)), (), (0,), (), (1,)))
        self.assertEqual(watching.hidden_all(question, ()), question)

    def test_too_many_causes(self):
        self.assertEqual(len(watching.hidden_all(many_causes(20), (0,))[0][2]), 20)
        assert_refused(self, TooGreat, {"most": 20}, watching.hidden_all, many_causes(21), (0,))
        # Behind the errors of the lot.
        assert_refused(self, BadParameter, {"value": (0, 8)}, watching.hidden_all, many_causes(21), (0, 8))
        # With 1 to 7 hidden first, there are fewer causes.
        self.assertEqual(watching.hidden_all(many_causes(21), tuple(range(8)))[0], (2, (), ((0, 1),)))

    def test_no_lots(self):
        question = ((5, ((0, 1),), ()), (), (0,), (1,), (2,))
        for lot in NO_TUPLES + [(5,), (-1,), (4, 3), (3, 3), (True,), (3.0,), ("3",), (HOSTILE,), [3], ((3,),), (0, 5),
                                (3, 10 ** 5000), tuple(range(1000))]:
            assert_refused(self, BadLot, {"value": lot}, watching.hidden_all, question, lot)
        for lot in [(0,), (1,), (2,), (0, 3), (2, 3, 4), (0, 1, 2, 3, 4)]:
            assert_refused(self, BadParameter, {"value": lot}, watching.hidden_all, question, lot)

    def test_order(self):
        assert_first_told(self, watching.hidden_all, {"question": QUESTION, "lot": (1,)},
                          {"question": BAD_QUESTION, "lot": bad_lot((3,))})
        assert_first_told(self, watching.hidden_all, {"question": QUESTION, "lot": (1,)},
                          {"question": BAD_QUESTION, "lot": bad_parameter((0,))})
        for question in NO_TUPLES + [()]:
            assert_refused(self, BadQuestion, {"place": ()}, watching.hidden_all, question, None)


def plain_order(question, prices):
    """All lots of other things, the cheapest ones ahead, as Python compares."""
    others = further_things(question)

    def rank(lot):
        return sum(price for thing, price in zip(others, prices) if thing in lot), lot
    return sorted(subsets(others), key=rank)


def plain_cheapest(question, prices):
    """The cheapest lot to be watched, None if nothing will do."""
    return next((lot for lot in plain_order(question, prices) if plain_told(plain_left(question, lot))), None)


def plain_is_cheapest(question, prices, value):
    lot, paper, denials = value
    if not set(lot) <= set(further_things(question)) or not plain_is_paper(plain_left(question, lot), paper):
        return False
    ordered = plain_order(question, prices)
    return all(hedge in all_hedges(plain_left(question, less)) for less, hedge in denials) and all(
        any(set(one) <= set(less) for less, _ in denials) for one in ordered[:ordered.index(lot)])


def some_prices(chooser, question):
    return tuple(chooser.choice([0, 0, 1, 1, 2, 3, 5, 10 ** 6]) for _ in further_things(question))


def some_watched(chooser, count):
    """A drawn question that is told with all watched, and not with its own things alone."""
    while True:
        arrows = tuple(arrow for arrow in all_arrows(count) if chooser.random() < 0.5)
        causes = some_of(chooser, all_causes(count), chooser.choice([1, 2, 3]))
        by_hand, asked = sorted(chooser.sample(range(count), 2))
        seen = tuple(thing for thing in range(count) if thing not in (by_hand, asked) and chooser.random() < 0.15)
        question = ((count, arrows, causes), (), (by_hand,), seen, (asked,))
        if is_told(question) and not plain_told(plain_left(question, ())):
            return question


class CheapestTest(unittest.TestCase):

    def compare(self, question, prices):
        plain = plain_cheapest(question, prices)
        if plain is None:
            assert_refused(self, NoRow, {}, watching.cheapest_watch, question, prices)
            self.assertIs(watching.is_cheapest_watch(question, prices, ((), None, ())), False)
            return None
        told = watching.cheapest_watch(question, prices)
        assert_plain(self, told)
        lot, paper, denials = told
        self.assertEqual(lot, plain)
        self.assertIs(is_paper(plain_left(question, lot), paper), True)
        for less, hedge in denials:
            self.assertIs(is_hedge(plain_left(question, less), hedge), True)
        ordered = plain_order(question, prices)
        for one in ordered[:ordered.index(lot)]:
            self.assertTrue(any(set(one) <= set(less) for less, _ in denials))
        self.assertIs(watching.is_cheapest_watch(question, prices, told), True)
        return told

    def test_all_small_questions(self):
        chooser = random.Random(442)
        for question in small_questions():
            others = further_things(question)
            for prices in {(1,) * len(others), (0,) * len(others), some_prices(chooser, question)}:
                self.compare(question, prices)

    def test_drawn_questions(self):
        chooser = random.Random(443)
        found = set()
        for at in range(160):
            count = chooser.choice([4, 5])
            question = some_watched(chooser, count) if at % 4 else some_question(chooser, count)
            for prices in [some_prices(chooser, question), some_prices(chooser, question),
                           (3,) * len(further_things(question))]:
                told = self.compare(question, prices)
                found.add(told and (len(told[0]), min(len(told[2]), 3)))
        self.assertTrue({None, (0, 0), (1, 1), (1, 2), (2, 3)} <= found)

    def test_a_greater_lot_may_be_the_cheapest(self):
        chooser = random.Random(444)
        found = 0
        for _ in range(60):
            question = some_watched(chooser, chooser.choice([4, 5]))
            others = further_things(question)
            let = [lot for lot in subsets(others) if plain_told(plain_left(question, lot))]
            for lot in let:
                if not any(set(one) < set(lot) for one in let):
                    prices = tuple(1 if thing in lot else 100 for thing in others)
                    self.assertEqual(self.compare(question, prices)[0], lot)
                    found += len(lot) > 1
        self.assertGreater(found, 0)

    def test_one_of_two(self):
        self.assertEqual(self.compare(CHAIN, (1, 1, 1))[0], (1,))
        self.assertEqual(self.compare(CHAIN, (2, 1, 0))[0], (2,))
        # As dear: (1,) comes behind (1, 2), (1, 2, 3), all of them at the price 0; () doesn't do.
        self.assertEqual(self.compare(CHAIN, (0, 0, 0))[0], (1,))
        self.assertEqual(self.compare(CHAIN, (1, 0, 0))[0], (2,))
        self.assertEqual(self.compare(CHAIN, (10 ** 6, 10 ** 6, 10 ** 6))[0], (1,))

    def test_examples(self):
        for price in (0, 1, 10 ** 6):
            told = watching.cheapest_watch(question=QUESTION, prices=(price,))
            self.assertEqual(told[0], (1,))
            self.assertEqual(told[2], (((), ((), (0, 1), (1,))),))
            self.assertIs(watching.is_cheapest_watch(question=QUESTION, prices=(price,), value=told), True)

    def test_nothing_tells(self):
        question = ((3, ((0, 1), (0, 2), (1, 2)), ((0, 2),)), (), (0,), (), (2,))
        assert_refused(self, NoRow, {}, watching.cheapest_watch, question, (1,))
        self.assertIs(watching.is_cheapest_watch(question, (1,), None), False)

    def test_ten_things(self):
        arrows = tuple((thing, thing + 1) for thing in range(9))
        question = ((10, arrows, ((0, 9),)), (), (0,), (), (9,))
        prices = (5, 4, 3, 2, 1, 2, 3, 4)
        told = watching.cheapest_watch(question, prices)
        self.assertEqual(told[0], (5,))
        self.assertIs(watching.is_cheapest_watch(question, prices, told), True)
        question = ((10, (), tuple((thing, thing + 1) for thing in range(9))), (), (), (), (9,))
        told = watching.cheapest_watch(question, (0,) * 9)
        self.assertEqual(told[0], ())

    def test_too_many_causes(self):
        question = many_causes(21)
        for function, further in [(watching.cheapest_watch, ()), (watching.is_cheapest_watch, (None,))]:
            assert_refused(self, TooGreat, {"most": 20}, function, question, (1,) * 8, *further)
            # Behind the errors of the other parameters.
            assert_refused(self, BadParameter, {"value": (1,) * 7}, function, question, (1,) * 7, *further)
            self.assertIsNone(refusal(function, many_causes(20), (1,) * 8, *further))
        # Ahead of all else: with all watched it is not told.
        drawing, tried, by_hand, seen, asked = question
        bound = ((10, tuple(sorted(drawing[1] + ((8, 9),))), tuple(sorted(drawing[2][:19] + ((8, 9),)))), tried,
                 by_hand, seen, asked)
        self.assertIs(is_told(bound), False)
        assert_refused(self, NoRow, {}, watching.cheapest_watch, bound, (1,) * 8)
        bound = ((10, ((0, 7), (0, 9), (8, 9)), bound[0][2]),) + bound[1:]
        self.assertIs(is_told(bound), False)
        assert_refused(self, TooGreat, {"most": 20}, watching.cheapest_watch, bound, (1,) * 8)
        assert_refused(self, TooGreat, {"most": 20}, watching.is_cheapest_watch, bound, (1,) * 8, HOSTILE)

    def test_no_prices(self):
        question = ((5, ((0, 1),), ()), (), (0,), (1,), (2,))
        for prices in NO_TUPLES + [(), (1,), (1, 1, 1), (1,) * 5, [1, 1], (1, -1), (1, 10 ** 6 + 1), (10 ** 5000, 1),
                                   (1, True), (False, 1), (1.0, 1), ("1", 1), (None, 1), (HOSTILE, 1), ((1,), 1)]:
            assert_refused(self, BadParameter, {"value": prices}, watching.cheapest_watch, question, prices)
            assert_refused(self, BadParameter, {"value": prices}, watching.is_cheapest_watch, question, prices, None)
        for prices in [(0, 0), (10 ** 6, 10 ** 6)]:
            self.compare(question, prices)

    def test_order(self):
        wrong = {"question": BAD_QUESTION, "prices": bad_parameter((1, 1))}
        assert_first_told(self, watching.cheapest_watch, {"question": QUESTION, "prices": (1,)}, wrong)
        assert_first_told(self, watching.is_cheapest_watch, {"question": QUESTION, "prices": (1,), "value": None},
                          wrong)


class IsCheapestTest(unittest.TestCase):

    def bent(self, question, value):
        """Values that are much like a right one."""
        lot, paper, denials = value
        others = further_things(question)
        told = [(one, paper, denials) for one in subsets(others)]
        told += [(lot, paper, denials[:at] + denials[at + 1:]) for at in range(len(denials))]
        told += [(lot, paper, denials[::-1]), (lot, paper, denials + denials), (lot, paper, ())]
        moved, steps = paper
        told += [(lot, (moved, steps + (("join", (len(steps) - 1,)),)), denials), (lot, (moved, steps[:-1]), denials)]
        for one in subsets(others):
            word, shown = solve(plain_left(question, one))
            if word == "told":
                told += [(one, shown, denials), (lot, shown, denials), (one, shown, ())]
            else:
                told += [(lot, paper, denials + ((one, shown),)), (lot, paper, ((one, shown),))]
                told += [(lot, paper, denials[:at] + ((one, shown),) + denials[at + 1:]) for at in range(len(denials))]
        for at, (less, hedge) in enumerate(denials):
            moved, great, small = hedge
            bent = [(lot, hedge), (others, hedge), (less, (moved, small, great)), (less, (moved, great[1:], small))]
            bent += [(less[1:], hedge), (less[:-1], hedge)]
            told += [(lot, paper, denials[:at] + (one,) + denials[at + 1:]) for one in bent]
        return told

    def test_bent_values(self):
        chooser = random.Random(445)
        found = {True: 0, False: 0}
        for _ in range(40):
            question = some_watched(chooser, chooser.choice([3, 4, 5]))
            prices = some_prices(chooser, question)
            for value in self.bent(question, watching.cheapest_watch(question, prices)):
                plain = plain_is_cheapest(question, prices, value)
                self.assertIs(watching.is_cheapest_watch(question, prices, value), plain)
                found[plain] += 1
        self.assertGreater(min(found.values()), 50)

    def test_a_denial_is_one_for_all_that_lies_in_it(self):
        prices = (1, 1, 0)
        lot, paper, _ = watching.cheapest_watch(CHAIN, prices)
        self.assertEqual((lot, plain_order(CHAIN, prices)[:3]), ((1,), [(), (3,), (1,)]))
        denials = [(less, solve(plain_left(CHAIN, less))[1]) for less in [(3,), ()]]
        for some, told in [(denials, True), (denials[:1], True), (denials[1:], False), ([], False)]:
            self.assertIs(watching.is_cheapest_watch(CHAIN, prices, (lot, paper, tuple(some))), told)

    def test_values_of_all_kinds(self):
        lot, paper, denials = told = watching.cheapest_watch(QUESTION, (1,))
        less, hedge = denials[0]
        for value in NO_TUPLES + [(), told[:2], told + ((),), list(told), (HOSTILE,) * 3, (HOSTILE, paper, denials),
                                  (lot, HOSTILE, denials), (lot, paper, HOSTILE), (lot, paper, (HOSTILE,)),
                                  (lot, paper, denials + (HOSTILE,)), (lot, paper, list(denials)),
                                  (lot, paper, denials + (None,)), (list(lot), paper, denials), ((True,), paper, denials),
                                  ((1.0,), paper, denials), ((1, 1), paper, denials), ((0,), paper, denials),
                                  ((2,), paper, denials), ((0, 1), paper, denials), ((3,), paper, denials),
                                  (paper, lot, denials), (lot, list(paper), denials), (lot, paper, denials[0]),
                                  (lot, paper, ((HOSTILE, hedge),)), (lot, paper, ((less, HOSTILE),)),
                                  (lot, paper, ([less, hedge],)), (lot, paper, ((less, hedge, ()),)),
                                  (lot, paper, ((less,),)), (lot, paper, (([], hedge),)), (lot, paper, (((0,), hedge),)),
                                  (lot, paper, ((None, hedge),)), (lot, paper, ((less, hedge), ((True,), hedge)))]:
            self.assertIs(watching.is_cheapest_watch(QUESTION, (1,), value), False)
        self.assertIs(watching.is_cheapest_watch(QUESTION, (1,), told), True)


if __name__ == "__main__":
    unittest.main()
