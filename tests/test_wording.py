"""[13]: words, and their places in a text."""

import unittest

from deedseen.errors import BadText
from deedseen.wording import Words, is_number, is_number_word, list_text, lot_text, placed_words
from deedseen.wording import read_list, read_lot, read_number
from tests.helping import NO_INTEGERS, assert_refused


class WordsTest(unittest.TestCase):

    def test_words_and_places(self):
        self.assertEqual(placed_words(""), [("", 0, 0)])
        self.assertEqual(placed_words("\n\n"), [("", 2, 0)])
        self.assertEqual(placed_words("  a  b \n\n c\n"),
                         [("a", 0, 0), ("b", 0, 1), ("c", 2, 0), ("", 3, 0)])
        self.assertEqual(placed_words("a\nb c"), [("a", 0, 0), ("b", 1, 0), ("c", 1, 1), ("", 1, 2)])

    def test_only_blanks_and_line_feeds_part_words(self):
        for sign in ("\t", "\r", "\v", "\f", "\x1c", "\x85", "\xa0", "\u2028", "\u3000", "\0"):
            self.assertEqual(placed_words(f"a{sign}b {sign}"), [(f"a{sign}b", 0, 0), (sign, 0, 1), ("", 0, 2)])

    def test_number_words(self):
        for word in ("0", "1", "9", "10", "1" + "0" * 19, "9" * 20):
            self.assertTrue(is_number_word(word))
        for word in ("", "00", "01", "-1", "+1", "1.0", "1_0", "0x1", "a", "1a", "9" * 21, "1" * 5000, "0" * 5000,
                     "\u0661", "\u00b2", "1\u0661", "\uff11", "1\t", "{", "True"):
            self.assertFalse(is_number_word(word))

    def test_numbers(self):
        for value in (0, 1, 10 ** 20 - 1):
            self.assertTrue(is_number(value))
        for value in NO_INTEGERS + [-1, 10 ** 20, 10 ** 5000]:
            self.assertFalse(is_number(value))

    def test_lists_and_lots(self):
        self.assertEqual(lot_text(()), "{ }")
        self.assertEqual(lot_text((0, 12)), "{ 0 12 }")
        self.assertEqual(list_text([], "\n"), "(\n)")
        self.assertEqual(list_text(["a", "b c"], "\n"), "(\na\nb c\n)")
        self.assertEqual(list_text(["a", "b c"], " "), "( a b c )")

    def test_taken_one_after_the_other(self):
        words = Words("a ( 1 2 )\n{ } b")
        words.take("a")
        self.assertEqual(read_list(words, read_number), (1, 2))
        self.assertEqual(read_lot(words), ())
        assert_refused(self, BadText, {"line": 1, "word": 2}, words.end)
        assert_refused(self, BadText, {"line": 1, "word": 2}, words.number)
        assert_refused(self, BadText, {"line": 1, "word": 2}, words.take_one_of, ("a", "c"))
        self.assertEqual(words.take_one_of(("a", "b")), "b")
        words.end()
        assert_refused(self, BadText, {"line": 1, "word": 3}, words.take, "b")


if __name__ == "__main__":
    unittest.main()
