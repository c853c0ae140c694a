"""[13], [14]: drawings, questions, papers, hedges and worlds written, to the letter; what can't be."""

import unittest

from deedseen import texts
from deedseen.errors import BadDrawing, BadHedge, BadParameter, BadQuestion, BadWorld
from tests.helping import EXAMPLE, HOSTILE, NO_INTEGERS, NO_TUPLES, all_arrows, assert_refused

GREATEST = 10 ** 20 - 1
NO_NUMBERS = NO_INTEGERS + [-1, 10 ** 20, 10 ** 5000]


class DrawingTest(unittest.TestCase):

    def test_example(self):
        told = texts.drawing_text((3, ((0, 1), (1, 2)), ((0, 2),)))
        self.assertEqual(told, "drawing 3 (\narrow 0 1\narrow 1 2\n) (\ncause { 0 2 }\n)")

    def test_empty_lists(self):
        self.assertEqual(texts.drawing_text(drawing=(1, (), ())), "drawing 1 (\n) (\n)")
        self.assertEqual(texts.drawing_text((2, ((0, 1),), ())), "drawing 2 (\narrow 0 1\n) (\n)")
        self.assertEqual(texts.drawing_text((10, (), ((0, 9), (1, 2, 3)))),
                         "drawing 10 (\n) (\ncause { 0 9 }\ncause { 1 2 3 }\n)")

    def test_ten_things_with_all_arrows(self):
        lines = texts.drawing_text((10, all_arrows(10), (tuple(range(10)),))).split("\n")
        self.assertEqual(lines[0], "drawing 10 (")
        self.assertEqual(lines[1:46], [f"arrow {start} {end}" for start, end in all_arrows(10)])
        self.assertEqual(lines[46:], [") (", "cause { 0 1 2 3 4 5 6 7 8 9 }", ")"])

    def test_refuses(self):
        for drawing, place in [(HOSTILE, ()), ((0, (), ()), (0,)), ((2, ((1, 0),), ()), (1, 0)), ((2, (), 0), (2,))]:
            assert_refused(self, BadDrawing, {"place": place}, texts.drawing_text, drawing)


class QuestionTest(unittest.TestCase):

    def test_one_line(self):
        self.assertEqual(texts.question_text((EXAMPLE, (), (0,), (), (1, 2))),
                         "question drawing 3 ( arrow 0 1 arrow 1 2 ) ( cause { 0 2 } ) { } { 0 } { } { 1 2 }")
        self.assertEqual(texts.question_text(question=((3, (), ()), (0,), (0,), (1,), (2,))),
                         "question drawing 3 ( ) ( ) { 0 } { 0 } { 1 } { 2 }")

    def test_refuses(self):
        for question, place in [(HOSTILE, ()), ((EXAMPLE, (), (), (), ()), (4,)),
                                ((EXAMPLE, (1,), (), (), (2,)), (1,))]:
            assert_refused(self, BadQuestion, {"place": place}, texts.question_text, question)
        assert_refused(self, BadDrawing, {"place": (0,)}, texts.question_text, ((0, (), ()), (), (), (), ()))


class PaperTest(unittest.TestCase):

    def test_each_step(self):
        paper = ((2, 1), (("watched",), ("sum", 0, (2,)), ("part", 10, (0, 1)), ("join", (1, 3)), ("join", ())))
        self.assertEqual(texts.paper_text(paper), "paper (\n2\n1\n) (\nwatched\nsum 0 { 2 }\npart 10 { 0 1 }\n"
                                                  "join { 1 3 }\njoin { }\n)")

    def test_empty_lists(self):
        self.assertEqual(texts.paper_text(paper=((), ())), "paper (\n) (\n)")
        self.assertEqual(texts.paper_text(((), (("watched",),))), "paper (\n) (\nwatched\n)")

    def test_wrong_papers_are_written(self):
        paper = ((7, 7, GREATEST), (("sum", GREATEST, (2, 1, 1)), ("part", 0, ()), ("join", (3, 3, 0))))
        self.assertEqual(texts.paper_text(paper), f"paper (\n7\n7\n{GREATEST}\n) (\nsum {GREATEST} {{ 2 1 1 }}\n"
                                                  "part 0 { }\njoin { 3 3 0 }\n)")

    def test_refuses(self):
        steps = [("watched", 0), ("watched", ()), ("seen",), ("sum",), ("sum", 0), ("sum", 0, (1,), 0), ("part",),
                 ("part", 0), ("part", 0, (1,), ()), ("join",), ("join", (1,), 0), ("join", 0, (1,)), (), (0,), (None,),
                 (HOSTILE,), (b"watched",), "watched", ["watched"], ("Watched",), ("watched ",), ("",), (("watched",),),
                 ("seen", 0, (1,)), ("Sum", 0, (1,)), ("", 0, (1,)), ("seen", (1,)), ("watched", 0, (1,))]
        steps += NO_TUPLES
        for word in ("sum", "part"):
            steps += [(word, value, (1,)) for value in NO_NUMBERS]
            steps += [(word, 0, value) for value in NO_TUPLES] + [(word, 0, (1, value)) for value in NO_NUMBERS]
        steps += [("join", value) for value in NO_TUPLES] + [("join", (1, value)) for value in NO_NUMBERS]
        papers = NO_TUPLES + [(), ((),), ((), (), ()), [(), ()]]
        papers += [(value, ()) for value in NO_TUPLES] + [((1, value), ()) for value in NO_NUMBERS]
        papers += [((), value) for value in NO_TUPLES] + [((), (("watched",), step)) for step in steps]
        for paper in papers:
            assert_refused(self, BadParameter, {"value": paper}, texts.paper_text, paper)


class HedgeTest(unittest.TestCase):

    def test_written(self):
        self.assertEqual(texts.hedge_text(((), (0, 2), (2,))), "hedge (\n) { 0 2 } { 2 }")
        self.assertEqual(texts.hedge_text(hedge=((4, 1), (), (2, 2, GREATEST))),
                         f"hedge (\n4\n1\n) {{ }} {{ 2 2 {GREATEST} }}")

    def test_refuses(self):
        hedges = NO_TUPLES + [(), ((), ()), ((), (), (), ()), [(), (), ()]]
        for at in range(3):
            for value in NO_TUPLES + [(1, number) for number in NO_NUMBERS]:
                hedge = [(), (), ()]
                hedge[at] = value
                hedges.append(tuple(hedge))
        for hedge in hedges:
            assert_refused(self, BadHedge, {"value": hedge}, texts.hedge_text, hedge)


class WorldTest(unittest.TestCase):

    def refused(self, world, place):
        assert_refused(self, BadWorld, {"place": place}, texts.world_text, world)

    def test_written(self):
        world = ((2, 1), ((1, 1), (5,)), (((1, 0), (0, 1)), ((3,),)))
        self.assertEqual(texts.world_text(world), "world (\n2\n1\n) (\nweights ( 1 1 )\nweights ( 5 )\n) (\n"
                                                  "table ( weights ( 1 0 ) weights ( 0 1 ) )\n"
                                                  "table ( weights ( 3 ) )\n)")

    def test_empty_lists(self):
        self.assertEqual(texts.world_text(world=((), (), ())), "world (\n) (\n) (\n)")
        self.assertEqual(texts.world_text(((1,), (), (((1,),),))), "world (\n1\n) (\n) (\ntable ( weights ( 1 ) )\n)")
        self.assertEqual(texts.world_text(((), ((), ()), ((), ((),)))),
                         "world (\n) (\nweights ( )\nweights ( )\n) (\ntable ( )\ntable ( weights ( ) )\n)")

    def test_wrong_worlds_are_written(self):
        self.assertEqual(texts.world_text(((0, GREATEST), ((0,),), (((GREATEST,),),))),
                         f"world (\n0\n{GREATEST}\n) (\nweights ( 0 )\n) (\ntable ( weights ( {GREATEST} ) )\n)")

    def test_refuses(self):
        for world in NO_TUPLES + [(), ((), ()), ((), (), (), ()), [(), (), ()]]:
            self.refused(world, ())
        for value in NO_TUPLES:
            self.refused((value, (), ()), (0,))
            self.refused(((), value, ()), (1,))
            self.refused(((), ((1,), value), ()), (1,))
            self.refused(((), (), value), (2,))
            self.refused(((), (), (((1,),), value)), (2,))
            self.refused(((), (), (((1,), value),)), (2,))
        for value in NO_NUMBERS:
            self.refused(((1, value), (), ()), (0,))
            self.refused(((), ((1, value),), ()), (1,))
            self.refused(((), (), (((1,), (1, value)),)), (2,))

    def test_the_first_wrong_part(self):
        self.refused((None, None, None), (0,))
        self.refused(((), None, None), (1,))
        self.refused(((), ((),), None), (2,))
        self.refused(((-1,), ((-1,),), (((-1,),),)), (0,))


if __name__ == "__main__":
    unittest.main()
