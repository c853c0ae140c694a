"""[13], [15]: texts read; the place of the first wrong word."""

import random
import re
import unittest

from deedseen import texts
from deedseen.drawings import need_drawing
from deedseen.errors import BadDrawing, BadQuestion, BadText, BadWorld, TooGreat
from deedseen.questions import need_question
from deedseen.worlds import need_world
from tests.helping import (BAD_DRAWING, EXAMPLE, NO_STRINGS, all_drawings, assert_first_told, assert_plain,
                           assert_refused, refusal, some_drawing, some_of, some_world)

WORLD = ((2, 1, 2), ((1, 1),), (((1, 0), (0, 1)), ((5,), (5,)), ((1, 2), (2, 1))))
QUESTION = (EXAMPLE, (), (0,), (1,), (2,))
PAPER = ((1, 0), (("watched",), ("part", 0, (0, 2)), ("sum", 1, (2,)), ("join", (1, 2)), ("join", ())))
HEDGE = ((1,), (0, 2), (2,))

# The forms, for the plain way: each name with the rows of words and names that it may be.
FORMS = {
    "NS": ["", "N NS"],
    "LOT": ["{ NS }"],
    "DRAWING": ["drawing N ( ARROWS ) ( CAUSES )"],
    "ARROWS": ["", "arrow N N ARROWS"],
    "CAUSES": ["", "cause LOT CAUSES"],
    "QUESTION": ["question DRAWING LOT LOT LOT LOT"],
    "PAPER": ["paper ( NS ) ( STEPS )"],
    "STEPS": ["", "watched STEPS", "sum N LOT STEPS", "part N LOT STEPS", "join LOT STEPS"],
    "HEDGE": ["hedge ( NS ) LOT LOT"],
    "WORLD": ["world ( NS ) ( ROWS ) ( TABLES )"],
    "ROWS": ["", "weights ( NS ) ROWS"],
    "TABLES": ["", "table ( ROWS ) TABLES"],
}
READERS = {"DRAWING": texts.read_drawing, "QUESTION": texts.read_question, "PAPER": texts.read_paper,
           "HEDGE": texts.read_hedge, "WORLD": lambda text: texts.read_world(EXAMPLE, text)}
NEEDS = {"DRAWING": need_drawing, "QUESTION": need_question, "WORLD": lambda world: need_world(EXAMPLE, world)}
WRITTEN = {"DRAWING": texts.drawing_text(EXAMPLE), "QUESTION": texts.question_text(QUESTION),
           "PAPER": texts.paper_text(PAPER), "HEDGE": texts.hedge_text(HEDGE), "WORLD": texts.world_text(WORLD)}


def behind(wanted, word):
    """All rows of wanted things that can be left behind a word."""
    if not wanted:
        return set()
    first, rest = wanted[0], wanted[1:]
    if first in FORMS:
        return set().union(*[behind(tuple(form.split()) + rest, word) for form in FORMS[first]])
    if first == "N":
        return {rest} if re.fullmatch("0|[1-9][0-9]{0,19}", word) else set()
    return {rest} if first == word else set()


def can_end(wanted):
    return all(first in FORMS and "" in FORMS[first] for first in wanted)


def plain_wrong(form, text):
    """The place of the first wrong word, None if there is none, the long way."""
    states = {(form,)}
    lines = text.split("\n")
    for line, row in enumerate(lines):
        for number, word in enumerate(re.findall("[^ ]+", row)):
            states = set().union(*[behind(wanted, word) for wanted in states])
            if not states:
                return line, number
    if any(can_end(wanted) for wanted in states):
        return None
    return len(lines) - 1, len(re.findall("[^ ]+", lines[-1]))


class ReadCase(unittest.TestCase):

    def compare(self, form, text):
        """Against the plain way; what is right by its words has the same words again."""
        wrong = plain_wrong(form, text)
        if wrong is not None:
            assert_refused(self, BadText, {"line": wrong[0], "word": wrong[1]}, READERS[form], text)
            return
        found = refusal(READERS[form], text)
        if found is None:
            value = READERS[form](text)
            writer = getattr(texts, f"{form.lower()}_text")
            self.assertEqual(writer(value).split(), re.findall("[^ \n]+", text))
            assert_plain(self, value)
        else:
            self.assertIn(form, NEEDS)
            self.assertIsNot(found[0], BadText)


class ReadTest(unittest.TestCase):

    def test_what_is_written_is_read_as_it_was(self):
        chooser = random.Random(15)
        for count in (1, 2, 3):
            for drawing in all_drawings(count):
                self.assertEqual(texts.read_drawing(texts.drawing_text(drawing)), drawing)
        for _ in range(60):
            drawing = some_drawing(chooser, chooser.randint(4, 10))
            self.assertEqual(texts.read_drawing(texts.drawing_text(drawing)), drawing)
            things = list(range(drawing[0]))
            chooser.shuffle(things)
            by_hand, seen, asked = (tuple(sorted(some)) for some in (things[0:1], things[1:2], things[2:4]))
            question = (drawing, some_of(chooser, by_hand), by_hand, seen, asked)
            self.assertEqual(texts.read_question(texts.question_text(question)), question)

    def test_worlds_are_read_as_they_were(self):
        chooser = random.Random(151)
        for drawing in all_drawings(3)[::4] + [some_drawing(chooser, 5) for _ in range(10)]:
            world = some_world(chooser, drawing, hidden=(1,) * len(drawing[2]))
            self.assertEqual(texts.read_world(drawing, texts.world_text(world)), world)
        world = ((64, 64), (), (((10 ** 6,) * 64,), ((0,) * 63 + (1,),) * 64))
        drawing = (2, ((0, 1),), ())
        self.assertEqual(texts.read_world(drawing=drawing, text=texts.world_text(world)), world)

    def test_papers_and_hedges_are_read_as_they_were_told(self):
        greatest = 10 ** 20 - 1
        for paper in [PAPER, ((), ()), ((9, 9, 0), (("sum", greatest, (3, 3, 1)), ("part", 0, ()))),
                      ((greatest,), (("join", (5, 4)), ("watched",), ("watched",)))]:
            self.assertEqual(texts.read_paper(text=texts.paper_text(paper)), paper)
        for hedge in [HEDGE, ((), (), ()), ((3, 3), (2, 1), (greatest, 0))]:
            self.assertEqual(texts.read_hedge(text=texts.hedge_text(hedge)), hedge)

    def test_any_blanks_and_line_feeds(self):
        chooser = random.Random(152)
        values = {"DRAWING": EXAMPLE, "QUESTION": QUESTION, "PAPER": PAPER, "HEDGE": HEDGE, "WORLD": WORLD}
        for form, text in WRITTEN.items():
            for gap in (" ", "\n", "  ", " \n", "\n \n\n "):
                self.assertEqual(READERS[form](gap.join(text.split())), values[form])
                self.assertEqual(READERS[form](gap + gap.join(text.split()) + gap), values[form])
            for _ in range(20):
                mixed = "".join(word + chooser.choice([" ", "\n", " \n ", "\n\n"]) for word in text.split())
                self.assertEqual(READERS[form](mixed), values[form])

    def test_example(self):
        assert_refused(self, BadText, {"line": 0, "word": 7}, texts.read_paper,
                       "paper ( ) ( watched part 0 ( 1 ) )")


class WrongWordsTest(ReadCase):

    OTHERS = ["(", ")", "{", "}", "0", "7", "12", "00", "01", "-1", "+1", "1" * 20, "1" * 21, "1" * 5000, "0" * 5000,
              "drawing", "arrow", "cause", "question", "paper", "watched", "sum", "part", "join", "hedge", "world",
              "weights", "table", "Watched", "watched\t", "\t", "0\t", "\r", "1\r", "()", "({", "0)", "\u0661", "1.0",
              "\u00b2", "\u2003", "word", "1_0", "\0", "True"]

    def pieces(self, text):
        """The words, each with the gap behind it."""
        return re.findall("[^ \n]+[ \n]*", text)

    def test_words_exchanged(self):
        for form, text in WRITTEN.items():
            pieces = self.pieces(text)
            for at, piece in enumerate(pieces):
                gap = piece[len(piece.rstrip(" \n")):]
                for other in self.OTHERS:
                    self.compare(form, "".join(pieces[:at]) + other + gap + "".join(pieces[at + 1:]))

    def test_words_put_in(self):
        for form, text in WRITTEN.items():
            pieces = self.pieces(text + " ")
            for at in range(len(pieces) + 1):
                for other in self.OTHERS:
                    for gap in (" ", "\n"):
                        self.compare(form, "".join(pieces[:at]) + other + gap + "".join(pieces[at:]))

    def test_words_left_out_and_put_twice(self):
        for form, text in WRITTEN.items():
            pieces = self.pieces(text + " ")
            for at in range(len(pieces)):
                self.compare(form, "".join(pieces[:at] + pieces[at + 1:]))
                self.compare(form, "".join(pieces[:at + 1] + pieces[at:]))
                if at:
                    self.compare(form, "".join(pieces[:at - 1] + [pieces[at], pieces[at - 1]] + pieces[at + 1:]))

    def test_cut_off(self):
        for form, text in WRITTEN.items():
            for at in range(len(text)):
                for end in ("", " ", "\n", "\n\n ", " \n"):
                    self.compare(form, text[:at] + end)

    def test_two_wrong_words(self):
        chooser = random.Random(153)
        for form, text in WRITTEN.items():
            for _ in range(300):
                words = text.split()
                for _ in range(2):
                    words[chooser.randrange(len(words))] = chooser.choice(self.OTHERS)
                self.compare(form, "".join(word + chooser.choice(" \n") for word in words))

    def test_other_texts(self):
        for form in WRITTEN:
            for text in list(WRITTEN.values()) + ["", " ", "\n", " \n ", "\n\n\n"]:
                self.compare(form, text)

    def test_texts_that_end_too_early(self):
        for form in WRITTEN:
            for text, line, word in [("", 0, 0), ("   ", 0, 0), ("\n", 1, 0), ("\n\n  ", 2, 0)]:
                assert_refused(self, BadText, {"line": line, "word": word}, READERS[form], text)
        assert_refused(self, BadText, {"line": 0, "word": 3}, texts.read_drawing, "drawing 3 (")
        assert_refused(self, BadText, {"line": 1, "word": 0}, texts.read_drawing, "drawing 3 (\n")
        assert_refused(self, BadText, {"line": 1, "word": 2}, texts.read_drawing, "drawing 3 (\narrow 0")

    def test_words_behind_the_end(self):
        for form, text in WRITTEN.items():
            lines = text.split("\n")
            for other in [")", "0", "drawing", "x"]:
                assert_refused(self, BadText, {"line": len(lines) - 1, "word": len(lines[-1].split())}, READERS[form],
                               text + " " + other)
                assert_refused(self, BadText, {"line": len(lines) + 1, "word": 0}, READERS[form],
                               text + "\n \n  " + other)

    def test_numbers(self):
        for word, wrong in [("9" * 20, False), ("1" + "0" * 20, True), ("0" * 20, True), ("00", True), ("07", True),
                            ("1" * 5000, True), ("0" + "1" * 5000, True), ("\u0663", True), ("3\u0663", True)]:
            text = f"hedge ( {word} ) {{ }} {{ }}"
            if wrong:
                assert_refused(self, BadText, {"line": 0, "word": 2}, texts.read_hedge, text)
            else:
                self.assertEqual(texts.read_hedge(text), ((int(word),), (), ()))

    def test_only_blanks_and_line_feeds_part_words(self):
        for sign in ("\t", "\r", "\v", "\f", "\x1c", "\x85", "\xa0", "\u2028"):
            assert_refused(self, BadText, {"line": 0, "word": 1}, texts.read_hedge, f"hedge {sign}( ) {{ }} {{ }}")
            assert_refused(self, BadText, {"line": 0, "word": 0}, texts.read_hedge, f"hedge{sign}( ) {{ }} {{ }}")

    def test_no_strings(self):
        for value in NO_STRINGS:
            for reader in READERS.values():
                assert_refused(self, BadText, {"line": 0, "word": 0}, reader, value)


class BehindTheWordsTest(unittest.TestCase):
    """Right words that tell no drawing, no question, no world."""

    def test_drawings(self):
        for text, place in [("drawing 0 ( ) ( )", (0,)), ("drawing 11 ( ) ( )", (0,)),
                            (f"drawing {'9' * 20} ( ) ( )", (0,)), ("drawing 3 ( arrow 1 0 ) ( )", (1, 0)),
                            ("drawing 3 ( arrow 0 1 arrow 0 1 ) ( )", (1, 1)), ("drawing 3 ( ) ( cause { } )", (2, 0)),
                            ("drawing 3 ( ) ( cause { 0 1 } cause { 1 0 } )", (2, 1)),
                            ("drawing 3 ( arrow 0 3 ) ( cause { 3 } )", (1, 0))]:
            assert_refused(self, BadDrawing, {"place": place}, texts.read_drawing, text)

    def test_questions(self):
        for text, kind, place in [
                ("question drawing 0 ( ) ( ) { } { } { } { }", BadDrawing, (0,)),
                ("question drawing 3 ( arrow 2 1 ) ( ) { } { } { } { }", BadDrawing, (1, 0)),
                ("question drawing 3 ( ) ( ) { } { } { } { }", BadQuestion, (4,)),
                ("question drawing 3 ( ) ( ) { 1 } { 0 } { } { 2 }", BadQuestion, (1,)),
                ("question drawing 3 ( ) ( ) { } { 1 0 } { } { 2 }", BadQuestion, (2,)),
                ("question drawing 3 ( ) ( ) { } { 0 } { 0 } { 2 }", BadQuestion, (3,))]:
            assert_refused(self, kind, {"place": place}, texts.read_question, text)

    def test_worlds(self):
        one = (1, (), ())
        for text, place in [("world ( ) ( ) ( )", (0,)), ("world ( 0 ) ( ) ( )", (0,)), ("world ( 65 ) ( ) ( )", (0,)),
                            ("world ( 1 ) ( weights ( 1 ) ) ( )", (1,)), ("world ( 1 ) ( ) ( )", (2,)),
                            ("world ( 1 ) ( ) ( table ( ) )", (2, 0)),
                            ("world ( 1 ) ( ) ( table ( weights ( ) ) )", (2, 0, 0)),
                            ("world ( 1 ) ( ) ( table ( weights ( 0 ) ) )", (2, 0, 0)),
                            ("world ( 1 ) ( ) ( table ( weights ( 1000001 ) ) )", (2, 0, 0))]:
            assert_refused(self, BadWorld, {"place": place}, texts.read_world, one, text)
        self.assertEqual(texts.read_world(one, "world ( 1 ) ( ) ( table ( weights ( 1000000 ) ) )"),
                         ((1,), (), (((10 ** 6,),),)))
        assert_refused(self, TooGreat, {"most": 16384}, texts.read_world, (3, (), ()), "world ( 64 64 64 ) ( ) ( )")

    def test_wrong_words_come_ahead(self):
        assert_refused(self, BadText, {"line": 0, "word": 5}, texts.read_drawing, "drawing 0 ( ) ( ")
        assert_refused(self, BadText, {"line": 0, "word": 6}, texts.read_drawing, "drawing 0 ( ) ( ) )")
        assert_refused(self, BadText, {"line": 0, "word": 6}, texts.read_world, EXAMPLE, "world ( ) ( ) (")

    def test_the_drawing_of_a_world_comes_first(self):
        assert_first_told(self, texts.read_world, {"drawing": EXAMPLE, "text": WRITTEN["WORLD"]},
                          {"drawing": BAD_DRAWING, "text": (None, BadText, {"line": 0, "word": 0})})
        assert_first_told(self, texts.read_world, {"drawing": EXAMPLE, "text": WRITTEN["WORLD"]},
                          {"drawing": BAD_DRAWING, "text": ("world )", BadText, {"line": 0, "word": 1})})

    def test_papers_and_hedges_may_be_wrong(self):
        self.assertEqual(texts.read_paper("paper ( 99 99 ) ( sum 7 { 3 1 1 } join { } )"),
                         ((99, 99), (("sum", 7, (3, 1, 1)), ("join", ()))))
        self.assertEqual(texts.read_hedge("hedge ( ) { } { 5 5 }"), ((), (), (5, 5)))


if __name__ == "__main__":
    unittest.main()
