"""[27]: tables of a question."""

import random
import unittest

from deedseen.answers import watched
from deedseen.chances import reduced
from deedseen.errors import BadDrawing, BadQuestion, BadTable, TooGreat
from deedseen.tables import need_table
from tests.helping import EXAMPLE, HOSTILE, NO_INTEGERS, NO_TUPLES, assert_first_told, assert_refused, some_world
from tests.plain import some_question, some_table

QUESTION = (EXAMPLE, (), (0,), (), (2,))
EVEN = ((2, 2, 2), ((1, 8),) * 8)
NO_CHANCES = NO_TUPLES + [(), (1,), (1, 2, 3), (2, 1), (9, 8), (-1, 8), (2, 16), (0, 8), (1, 0), (1, -8), (True, 8),
                          (1, True), (1.0, 8), (1, 8.0), ("1", 8), (HOSTILE, 8), (1, HOSTILE), [1, 8], ((1, 8),),
                          (None, None), (8, 8)]


class TablesTest(unittest.TestCase):

    def refused(self, table, place, question=QUESTION):
        assert_refused(self, BadTable, {"place": place}, need_table, question, table)

    def test_what_is_watched_in_a_world_is_a_table(self):
        chooser = random.Random(27)
        for _ in range(150):
            question = some_question(chooser, chooser.choice([1, 2, 3, 4]), 3)
            sizes = tuple(chooser.choice([1, 2, 2, 3]) for _ in range(question[0][0]))
            # The world needs not be open.
            world = some_world(chooser, question[0], sizes, least=chooser.choice([0, 1]))
            table = (sizes, watched(question, world))
            self.assertIs(need_table(question, table), table)

    def test_tables_of_no_world(self):
        chooser = random.Random(271)
        for _ in range(100):
            question = some_question(chooser, chooser.choice([1, 2, 3, 4]), 3)
            table = some_table(chooser, question, [chooser.choice([1, 2, 3]) for _ in range(question[0][0])])
            self.assertIs(need_table(question=question, table=table), table)

    def test_no_pair(self):
        for table in NO_TUPLES + [(), (EVEN[0],), EVEN + ((),), list(EVEN)]:
            self.refused(table, ())

    def test_sizes(self):
        for sizes in NO_TUPLES + [(), (2, 2), (2, 2, 2, 2), [2, 2, 2], (2, 2, (2,))]:
            self.refused((sizes, EVEN[1]), (0,))
        for size in NO_INTEGERS + [0, -1, 65, 10 ** 5000]:
            for at in range(3):
                self.refused((EVEN[0][:at] + (size,) + EVEN[0][at + 1:], EVEN[1]), (0,))

    def test_as_many_chances_as_rows(self):
        for chances in NO_TUPLES + [(), EVEN[1][:7], EVEN[1] + ((0, 1),), list(EVEN[1]), EVEN[1] * 2]:
            self.refused((EVEN[0], chances), (1,))
        self.refused(((2, 2, 3), EVEN[1]), (1,))
        self.refused(((2, 2, 1), EVEN[1]), (1,))

    def test_each_chance(self):
        for chance in NO_CHANCES:
            for at in (0, 3, 7):
                self.refused((EVEN[0], EVEN[1][:at] + (chance,) + EVEN[1][at + 1:]), (1, at))

    def test_the_first_of_two_wrong_ones(self):
        for at in range(8):
            for later in range(at + 1, 8):
                chances = list(EVEN[1])
                chances[at] = chances[later] = (2, 16)
                self.refused((EVEN[0], tuple(chances)), (1, at))
        self.refused((None, None), (0,))
        self.refused(((2, 2, 65), EVEN[1][:3]), (0,))
        self.refused((EVEN[0], (None,) * 7), (1,))
        # A wrong chance is told ahead of what all are together.
        self.refused((EVEN[0], ((1, 2),) * 7 + ((3, 2),)), (1, 7))

    def test_1_together(self):
        for chances in [((1, 8),) * 7 + ((1, 4),), ((1, 8),) * 7 + ((0, 1),), ((1, 1),) * 8, ((0, 1),) * 8,
                        ((1, 9),) * 8]:
            self.refused((EVEN[0], chances), (1,))
        need_table(QUESTION, (EVEN[0], ((1, 1),) + ((0, 1),) * 7))
        need_table(QUESTION, (EVEN[0], ((0, 1),) * 4 + ((1, 6), (1, 3), (1, 4), (1, 4))))

    def test_1_together_for_all_values_of_tried(self):
        tried = (EXAMPLE, (0,), (0, 1), (), (2,))
        need_table(tried, (EVEN[0], ((1, 4),) * 8))
        self.refused(EVEN, (1,), tried)
        # Together 2, as they ought to be, but not 1 for each value.
        self.refused((EVEN[0], ((1, 4),) * 3 + ((0, 1),) + ((1, 4),) * 3 + ((1, 2),)), (1,), tried)
        for at in range(8):
            chances = list(((1, 4),) * 8)
            chances[at] = (1, 5)
            self.refused((EVEN[0], tuple(chances)), (1,), tried)
        both = (EXAMPLE, (0, 1), (0, 1), (), (2,))
        need_table(both, (EVEN[0], ((1, 3), (2, 3)) * 4))
        self.refused((EVEN[0], ((1, 3), (2, 3)) * 3 + ((1, 3), (1, 3))), (1,), both)
        self.refused((EVEN[0], ((1, 4),) * 8), (1,), both)
        # The thing 1 is tried: rows with its values stand apart.
        middle = (EXAMPLE, (1,), (1,), (), (2,))
        need_table(middle, (EVEN[0], ((1, 2), (1, 2), (1, 4), (1, 4), (0, 1), (0, 1), (1, 4), (1, 4))))
        self.refused((EVEN[0], ((1, 2), (1, 2), (0, 1), (0, 1), (0, 1), (0, 1), (1, 2), (0, 1))), (1,), middle)

    def test_just_as_many_rows_as_are_let(self):
        for sizes in [(64, 64, 4), (4, 64, 64), (16, 32, 32)]:
            table = (sizes, ((1, 16384),) * 16384)
            self.assertIs(need_table(QUESTION, table), table)
        for sizes in [(64, 64, 5), (5, 64, 64), (64, 64, 64), (26, 26, 26)]:
            for chances in [None, (), ((1, 16384),) * 16384]:
                assert_refused(self, TooGreat, {"most": 16384}, need_table, QUESTION, (sizes, chances))
        ten = ((10, (), ()), (), (), (), (0,))
        assert_refused(self, TooGreat, {"most": 16384}, need_table, ten, ((64,) * 10, None))
        need_table(ten, ((2,) * 10, ((1, 1024),) * 1024))

    def test_unlike_great_numbers(self):
        chooser = random.Random(272)
        question = ((2, (), ()), (), (), (), (0,))
        weights = [chooser.randint(1, 10 ** 30) for _ in range(4)]
        whole = sum(weights)
        chances = tuple(reduced(weight, whole) for weight in weights)
        need_table(question, ((2, 2), chances))
        spoilt = reduced(weights[3] + 1, whole)
        self.refused(((2, 2), chances[:3] + (spoilt,)), (1,), question)

    def test_order(self):
        bad_question = ((EXAMPLE, (), (0,), (0,), (2,)), BadQuestion, {"place": (3,)})
        assert_first_told(self, need_table, {"question": QUESTION, "table": EVEN},
                          {"question": bad_question, "table": ((EVEN[0], None), BadTable, {"place": (1,)})})
        assert_refused(self, BadDrawing, {"place": ()}, need_table, (None,) * 5, EVEN)


if __name__ == "__main__":
    unittest.main()
