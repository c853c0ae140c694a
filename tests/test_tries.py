"""[40], [41]: what is told with things tried by hand, and the cheapest of them."""

import random
import unittest

from deedseen import tries
from deedseen.checking import is_hedge, is_paper
from deedseen.errors import BadLot, BadParameter, BadQuestion
from deedseen.solving import solve
from tests.helping import (EXAMPLE, HOSTILE, NO_INTEGERS, NO_TUPLES, all_arrows, assert_first_told, assert_plain,
                           assert_refused, bad_lot, bad_parameter, subsets)
from tests.plain import all_hedges, plain_is_paper, some_hedged, some_question
from tests.plain_rules import plain_told, small_questions

BAD_QUESTION = ((EXAMPLE, (), (0,), (0,), (2,)), BadQuestion, {"place": (3,)})
HARDER = ((3, ((0, 1), (0, 2), (1, 2)), ((0, 2),)), (), (0,), (), (2,))
HEDGE = ((), (0, 2), (2,))
MANY = ((5, ((0, 4), (1, 4), (2, 3), (3, 4)), ((0, 4), (1, 4), (2, 3, 4))), (), (0, 1, 2, 3), (), (4,))


def tried_by(question, tried):
    return (question[0], tried) + question[2:]


def plain_order(question, prices):
    """All lots within SET, the cheapest ones ahead, as Python compares."""
    def rank(lot):
        return sum(price for thing, price in zip(question[2], prices) if thing in lot), lot
    return sorted(subsets(question[2]), key=rank)


def plain_cheapest(question, prices):
    return next(lot for lot in plain_order(question, prices) if plain_told(tried_by(question, lot)))


def plain_is_cheapest(question, prices, value):
    """By the words; hedges are looked up in the list of all of them."""
    tried, paper, hedges = value
    if not set(tried) <= set(question[2]) or not plain_is_paper(tried_by(question, tried), paper):
        return False
    every = all_hedges(tried_by(question, ()))
    ordered = plain_order(question, prices)
    return all(hedge in every for hedge in hedges) and all(
        any(not set(lot) & set(hedge[1]) for hedge in hedges) for lot in ordered[:ordered.index(tried)])


def some_prices(chooser, question):
    return tuple(chooser.choice([0, 0, 1, 1, 2, 3, 5, 10 ** 6]) for _ in question[2])


class TriedTest(unittest.TestCase):

    def compare(self, question):
        """All lots within SET; those by which it is told."""
        told_lots = []
        for tried in subsets(question[2]):
            there = tries.with_tried(question, tried)
            self.assertEqual(there, tried_by(question, tried))
            told = tries.told_by(question, tried)
            self.assertEqual(told, solve(there))
            self.assertIs(told[0] == "told", plain_told(there))
            if told[0] == "told":
                told_lots.append(set(tried))
            else:
                # A hedge has a thing of SET that is not tried, and is one for each lesser lot.
                self.assertTrue(set(told[1][1]) & (set(question[2]) - set(tried)))
                for lesser in subsets(tried):
                    self.assertIs(is_hedge(tried_by(question, lesser), told[1]), True)
        self.assertIn(set(question[2]), told_lots)
        for tried in told_lots:
            for greater in subsets(question[2]):
                if tried <= set(greater):
                    self.assertIn(set(greater), told_lots)
        return told_lots

    def test_all_small_questions(self):
        for question in small_questions():
            if not question[1]:
                self.compare(question)

    def test_drawn_questions(self):
        chooser = random.Random(40)
        for at in range(90):
            count = chooser.choice([4, 5])
            self.compare(some_hedged(chooser, count)[0] if at % 3 else some_question(chooser, count))

    def test_the_own_tried_counts_for_nothing(self):
        for question in small_questions():
            if question[1]:
                for tried in subsets(question[2]):
                    self.assertEqual(tries.with_tried(question, tried), tried_by(question, tried))
                    self.assertEqual(tries.told_by(question, tried), tries.told_by(tried_by(question, ()), tried))

    def test_example(self):
        self.assertEqual(tries.with_tried(question=HARDER, tried=(0,)), HARDER[:1] + ((0,),) + HARDER[2:])
        self.assertEqual(tries.told_by(question=HARDER, tried=()), ("not", HEDGE))
        self.assertEqual(tries.told_by(HARDER, (0,))[0], "told")

    def test_no_lots(self):
        question = (MANY[0], (), (1, 2), (), (4,))
        for function in (tries.with_tried, tries.told_by):
            for value in NO_TUPLES + [(5,), (-1,), (2, 1), (1, 1), (True,), (1.0,), ("1",), (HOSTILE,), [1], ((1,),),
                                      (1, 10 ** 5000), tuple(range(1000))]:
                assert_refused(self, BadLot, {"value": value}, function, question, value)
            for value in [(0,), (3,), (4,), (0, 1), (1, 4), (0, 1, 2), (1, 2, 3), (0, 1, 2, 3, 4)]:
                assert_refused(self, BadParameter, {"value": value}, function, question, value)
            for value in [(), (1,), (2,), (1, 2)]:
                function(question, value)

    def test_order(self):
        for function in (tries.with_tried, tries.told_by):
            assert_first_told(self, function, {"question": HARDER, "tried": (0,)},
                              {"question": BAD_QUESTION, "tried": bad_lot((3,))})
            assert_first_told(self, function, {"question": HARDER, "tried": (0,)},
                              {"question": BAD_QUESTION, "tried": bad_parameter((1,))})
            for question in NO_TUPLES + [()]:
                assert_refused(self, BadQuestion, {"place": ()}, function, question, None)


class CheapestTest(unittest.TestCase):

    def compare(self, question, prices):
        told = tries.cheapest_try(question, prices)
        assert_plain(self, told)
        tried, paper, hedges = told
        self.assertEqual(tried, plain_cheapest(question, prices))
        self.assertIs(is_paper(tried_by(question, tried), paper), True)
        untried = tried_by(question, ())
        for hedge in hedges:
            self.assertIs(is_hedge(untried, hedge), True)
        ordered = plain_order(question, prices)
        for lot in ordered[:ordered.index(tried)]:
            self.assertTrue(any(not set(lot) & set(hedge[1]) for hedge in hedges))
        self.assertIs(tries.is_cheapest_try(question, prices, told), True)
        return told

    def test_all_small_questions(self):
        chooser = random.Random(41)
        for question in small_questions():
            if question[2]:
                for prices in {(1,) * len(question[2]), (0,) * len(question[2]), some_prices(chooser, question)}:
                    self.compare(question, prices)
            else:
                self.compare(question, ())

    def test_drawn_questions_of_four_and_five_things(self):
        chooser = random.Random(411)
        found = set()
        for at in range(160):
            count = chooser.choice([4, 5])
            question = some_hedged(chooser, count)[0] if at % 4 else some_question(chooser, count)
            for _ in range(3):
                tried, _, hedges = self.compare(question, some_prices(chooser, question))
                found.add((len(tried), len(hedges)))
            self.compare(question, (7,) * len(question[2]))
        self.assertTrue({(0, 0), (1, 1), (2, 2)} <= found)

    def test_a_greater_lot_may_be_the_cheapest(self):
        # Told by (2,), or by 0 and 1 together.
        drawing = (4, ((0, 2), (1, 2), (2, 3)), ((0, 1, 2), (0, 3), (1, 3)))
        question = (drawing, (), (0, 1, 2), (), (3,))
        for prices, tried in [((1, 1, 1), (2,)), ((1, 1, 3), (0, 1)), ((1, 1, 2), (0, 1)), ((2, 2, 3), (2,)),
                              ((0, 0, 0), (0, 1)), ((0, 1, 1), (0, 1)), ((10 ** 6, 0, 10 ** 6), (0, 1)),
                              ((0, 0, 10 ** 6), (0, 1)), ((10 ** 6, 10 ** 6, 0), (2,))]:
            self.assertEqual(self.compare(question, prices)[0], tried)
        drawing = (5, ((0, 2), (1, 2), (1, 3), (2, 3), (3, 4)), ((0, 1, 2, 3), (0, 1, 2, 4), (0, 2)))
        question = (drawing, (), (1, 2, 3), (), (4,))
        self.assertEqual(self.compare(question, (1, 1, 1))[0], (3,))
        self.assertEqual(self.compare(question, (1, 1, 3))[0], (1, 2))

    def test_each_least_lot_is_the_cheapest_at_its_prices(self):
        chooser = random.Random(412)
        for question in [MANY] + [some_hedged(chooser, 4)[0] for _ in range(100)]:
            lots_told = [lot for lot in subsets(question[2]) if plain_told(tried_by(question, lot))]
            for lot in lots_told:
                if not any(set(some) < set(lot) for some in lots_told):
                    prices = tuple(1 if thing in lot else 100 for thing in question[2])
                    self.assertEqual(self.compare(question, prices)[0], lot)

    def test_prices_of_nothing(self):
        # As dear as nothing: () comes ahead of all, (0,) ahead of (0, 1), as Python compares.
        self.assertEqual(self.compare(HARDER, (0,))[0], (0,))
        question = ((3, ((0, 2), (1, 2)), ()), (), (0, 1), (), (2,))
        self.assertEqual(self.compare(question, (0, 0))[0], ())
        bound = ((3, ((0, 2), (1, 2)), ((1, 2),)), (), (0, 1), (), (2,))
        # (0, 1) comes ahead of (1,).
        self.assertEqual(self.compare(bound, (0, 0))[0], (0, 1))
        self.assertEqual(self.compare(bound, (1, 0))[0], (1,))
        self.assertEqual(self.compare(bound, (0, 10 ** 6))[0], (0, 1))

    def test_example(self):
        for price in (0, 1, 10 ** 6):
            tried, paper, hedges = tries.cheapest_try(question=HARDER, prices=(price,))
            self.assertEqual((tried, hedges), ((0,), (HEDGE,)))
            value = (tried, paper, hedges)
            self.assertIs(tries.is_cheapest_try(question=HARDER, prices=(price,), value=value), True)

    def test_the_own_tried_counts_for_nothing(self):
        chooser = random.Random(413)
        for _ in range(60):
            question = some_hedged(chooser, 4)[0]
            prices = some_prices(chooser, question)
            told = tries.cheapest_try(tried_by(question, ()), prices)
            for tried in subsets(question[2]):
                self.assertEqual(tries.cheapest_try(tried_by(question, tried), prices), told)
                self.assertIs(tries.is_cheapest_try(tried_by(question, tried), prices, told), True)

    def test_ten_things(self):
        every = tuple(range(9))
        question = ((10, tuple((thing, 9) for thing in every), tuple((thing, 9) for thing in every)), (), every, (), (9,))
        told = tries.cheapest_try(question, tuple(every))
        self.assertEqual(told[0], every)
        self.assertIs(tries.is_cheapest_try(question, tuple(every), told), True)
        question = ((10, all_arrows(10), ((0, 9), (3, 9))), (), every, (), (9,))
        told = tries.cheapest_try(question, (1,) * 9)
        self.assertEqual(told[0], (0, 3))
        self.assertIs(tries.is_cheapest_try(question, (1,) * 9, told), True)

    def test_no_prices(self):
        question = (MANY[0], (), (1, 2), (), (4,))
        for prices in NO_TUPLES + [(), (1,), (1, 1, 1), [1, 1], (1, -1), (1, 10 ** 6 + 1), (10 ** 5000, 1), (1, True),
                                   (False, 1), (1.0, 1), ("1", 1), (None, 1), (HOSTILE, 1), (1, HOSTILE), ((1,), 1)]:
            assert_refused(self, BadParameter, {"value": prices}, tries.cheapest_try, question, prices)
            assert_refused(self, BadParameter, {"value": prices}, tries.is_cheapest_try, question, prices, None)
        for prices in [(0, 0), (10 ** 6, 10 ** 6)]:
            self.compare(question, prices)

    def test_order(self):
        wrong = {"question": BAD_QUESTION, "prices": bad_parameter((1, 1))}
        assert_first_told(self, tries.cheapest_try, {"question": HARDER, "prices": (1,)}, wrong)
        assert_first_told(self, tries.is_cheapest_try, {"question": HARDER, "prices": (1,), "value": None}, wrong)


class IsCheapestTest(unittest.TestCase):

    def bent(self, chooser, question, value):
        """Values that are much like a right one."""
        tried, paper, hedges = value
        told = [(lot, paper, hedges) for lot in subsets(question[2])]
        for lot in subsets(question[2]):
            word, shown = solve(tried_by(question, lot))
            if word == "told":
                told += [(lot, shown, hedges), (lot, shown, hedges[:-1]), (lot, shown, ())]
        told += [(tried, paper, hedges[:at] + hedges[at + 1:]) for at in range(len(hedges))]
        told += [(tried, paper, hedges[::-1]), (tried, paper, hedges + hedges), (tried, paper, ())]
        moved, steps = paper
        told += [(tried, (moved, steps + (("join", (len(steps) - 1,)),)), hedges), (tried, (moved, steps[:-1]), hedges)]
        for at, (moved, great, small) in enumerate(hedges):
            for hedge in [(moved, small, great), (moved, great[1:], small), (moved, great, great)]:
                told.append((tried, paper, hedges[:at] + (hedge,) + hedges[at + 1:]))
            other = chooser.choice(all_hedges(tried_by(question, ())))
            told += [(tried, paper, hedges[:at] + (other,) + hedges[at + 1:]), (tried, paper, hedges + (other,))]
        return told

    def test_bent_values(self):
        chooser = random.Random(414)
        found = {True: 0, False: 0}
        for at in range(60):
            question = some_hedged(chooser, chooser.choice([3, 4]))[0]
            prices = some_prices(chooser, question)
            told = tries.cheapest_try(question, prices)
            for value in self.bent(chooser, question, told):
                plain = plain_is_cheapest(question, prices, value)
                self.assertIs(tries.is_cheapest_try(question, prices, value), plain)
                found[plain] += 1
        self.assertGreater(min(found.values()), 100)

    def test_other_hedges_of_the_question(self):
        chooser = random.Random(415)
        for _ in range(40):
            question = some_hedged(chooser, 4)[0]
            prices = some_prices(chooser, question)
            tried, paper, _ = tries.cheapest_try(question, prices)
            every = tuple(all_hedges(tried_by(question, ())))
            self.assertIs(tries.is_cheapest_try(question, prices, (tried, paper, every)), True)

    def test_a_paper_of_another_lot(self):
        told = tries.told_by(HARDER, (0,))[1]
        self.assertIs(tries.is_cheapest_try(HARDER, (1,), ((0,), told, (HEDGE,))), True)
        self.assertIs(tries.is_cheapest_try(HARDER, (1,), ((), told, ())), False)
        self.assertIs(tries.is_cheapest_try(HARDER, (1,), ((0,), told, ())), False)

    def test_values_of_all_kinds(self):
        tried, paper, hedges = told = tries.cheapest_try(HARDER, (1,))
        for value in NO_TUPLES + [(), told[:2], told + ((),), list(told), (HOSTILE,) * 3, (HOSTILE, paper, hedges),
                                  (tried, HOSTILE, hedges), (tried, paper, HOSTILE), (tried, paper, (HOSTILE,)),
                                  (tried, paper, hedges + (HOSTILE,)), (tried, paper, list(hedges)),
                                  (tried, paper, hedges + (None,)), (list(tried), paper, hedges),
                                  ((False,), paper, hedges), ((0.0,), paper, hedges), ((0, 0), paper, hedges),
                                  ((1,), paper, hedges), ((2,), paper, hedges), (paper, tried, hedges),
                                  (tried, list(paper), hedges), (tried, paper, hedges[0]), (None, paper, hedges)]:
            self.assertIs(tries.is_cheapest_try(HARDER, (1,), value), False)
        for value in NO_INTEGERS:
            self.assertIs(tries.is_cheapest_try(HARDER, (1,), ((value,), paper, hedges)), False)


if __name__ == "__main__":
    unittest.main()
