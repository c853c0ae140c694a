"""The errors of the package.

What a message tells is never made of a value that was handed in: such a value
may be of any kind, so showing it might fail, or take for ever.
"""


class DeedError(ValueError):
    """Whatever is refused."""


class BadDrawing(DeedError):
    """No drawing; the place tells where not."""

    def __init__(self, place):
        super().__init__(f"no drawing, at {place}")
        self.place = place


class BadLot(DeedError):
    """No lot, or not such a one as is asked for."""

    def __init__(self, value):
        super().__init__("no such lot")
        self.value = value


class BadWorld(DeedError):
    """No world of the drawing; the place tells where not."""

    def __init__(self, place):
        super().__init__(f"no world of the drawing, at {place}")
        self.place = place


class BadTable(DeedError):
    """No table of the question; the place tells where not."""

    def __init__(self, place):
        super().__init__(f"no table of the question, at {place}")
        self.place = place


class BadQuestion(DeedError):
    """No question; the place tells where not."""

    def __init__(self, place):
        super().__init__(f"no question, at {place}")
        self.place = place


class BadSteps(DeedError):
    """No right steps; the place tells where not."""

    def __init__(self, place):
        super().__init__(f"no right steps, at {place}")
        self.place = place


class BadHedge(DeedError):
    """No hedge."""

    def __init__(self, value):
        super().__init__("no hedge")
        self.value = value


class BadRoad(DeedError):
    """No road."""

    def __init__(self, value):
        super().__init__("no road")
        self.value = value


class BadText(DeedError):
    """A text with a wrong word, or with too few."""

    def __init__(self, line, word):
        super().__init__(f"a wrong word: line {line}, word {word}, both from 0")
        self.line = line
        self.word = word


class BadDeed(DeedError):
    """No deed, or no state; the place tells where not."""

    def __init__(self, place):
        super().__init__(f"no deed or no state, at {place}")
        self.place = place


class BadParameter(DeedError):
    """Any other parameter that is not as told."""

    def __init__(self, value):
        super().__init__("a parameter that is not as told")
        self.value = value


class Nought(DeedError):
    """A division by 0 in a row."""

    def __init__(self, row):
        super().__init__(f"a division by 0 in the row {row}")
        self.row = row


class NoRow(DeedError):
    """There is nothing of the kind that is asked for."""

    def __init__(self):
        super().__init__("there is none")


class TooGreat(DeedError):
    """A number that is greater than the most that is let."""

    def __init__(self, most):
        super().__init__(f"more than {most}")
        self.most = most
