"""Words: the pieces of a text between blanks and line feeds, read and written."""

from deedseen.errors import BadText

_MOST_FIGURES = 20


def is_number(value):
    """Whether a value is an integer that a word can tell; True and False are none."""
    return type(value) is int and 0 <= value < 10 ** 20


def is_number_word(word):
    """Whether a word tells an integer, without needless zeros."""
    # The length comes first: Python itself refuses to read very long numbers.
    if len(word) > _MOST_FIGURES:
        return False
    # Other scripts have figures of their own, which isdigit takes, too.
    if not word.isascii() or not word.isdigit():
        return False
    return word == "0" or word[0] != "0"


def placed_words(text):
    """A list of (WORD, LINE, NUMBER) for each word, and one with "" for the text's end."""
    placed = []
    lines = text.split("\n")
    for line, piece in enumerate(lines):
        words = _words_of(piece)
        placed.extend([(word, line, number) for number, word in enumerate(words)])
    placed.append(("", len(lines) - 1, len(_words_of(lines[-1]))))
    return placed


def _words_of(line):
    # Given no sign, split would part words at tabulators and the like, too.
    return [word for word in line.split(" ") if word]


class Words:
    """The words of a text, taken one after the other.

    The text's end counts as one more word, "", which is asked for nowhere but at
    the end: so a text that ends too early is refused as a wrong word is.
    """

    def __init__(self, text):
        self._placed = placed_words(text)
        self._at = 0

    def next_is(self, word):
        """Whether this is the next word."""
        return self._placed[self._at][0] == word

    def refuse(self):
        """Refuse the next word."""
        placed = self._placed[self._at]
        raise BadText(placed[1], placed[2])

    def take(self, word):
        """Take this word, refuse any other one."""
        if not self.next_is(word):
            self.refuse()
        self._at += 1

    def take_one_of(self, words):
        """Take one of some words, refuse any other one; return it."""
        word = self._placed[self._at][0]
        if word not in words:
            self.refuse()
        self._at += 1
        return word

    def number(self):
        """Take a word that tells an integer, refuse any other one; return the integer."""
        word = self._placed[self._at][0]
        if not is_number_word(word):
            self.refuse()
        self._at += 1
        return int(word)

    def end(self):
        """Refuse the next word unless the text is at its end."""
        if not self.next_is(""):
            self.refuse()


def read_number(words):
    """Read N."""
    return words.number()


def read_lot(words):
    """Read { N .. }."""
    return _read_between(words, "{", read_number, "}")


def read_list(words, read_item):
    """Read a list ( .. ), each item by a function that takes the words."""
    return _read_between(words, "(", read_item, ")")


def _read_between(words, first, read_item, last):
    words.take(first)
    found = []
    # A word that is no beginning of an item either is refused by the item.
    while not words.next_is(last):
        found.append(read_item(words))
    words.take(last)
    return tuple(found)


def lot_text(lot):
    """Write { N .. }."""
    return " ".join(["{", *number_texts(lot), "}"])


def list_text(items, gap):
    """Write a list ( .. ) of items that are written already, with a gap between two."""
    return gap.join(["(", *items, ")"])


def number_texts(numbers):
    """Write each of some integers."""
    return [str(number) for number in numbers]
