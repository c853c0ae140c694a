"""Numbers for rows of values, summed and divided.

NUMBERS are (THINGS, TABLE): TABLE has a fraction for each row of values of the lot
THINGS, from its values. Nothing is checked here.
"""

from deedseen.chances import reduced, sum_of
from deedseen.errors import Nought
from deedseen.lots import all_things
from deedseen.worlds import rows_of


def values_of(row, lot):
    """The values that a row of all things has for a lot."""
    return tuple([row[thing] for thing in lot])


def rows_at_nought(sizes, lot):
    """All rows of all things, ascending, in which those outside of a lot have the value 0."""
    return rows_of([size if thing in lot else 1 for thing, size in enumerate(sizes)])


def numbers_of(sizes, chances):
    """The numbers of all things, of a chance for each row."""
    return all_things(len(sizes)), dict(zip(rows_of(sizes), chances))


def number_at(numbers, row):
    """The number for the values that a row of all things has."""
    things, table = numbers
    return table[values_of(row, things)]


def summed(numbers, lot):
    """The numbers of a lot of the things: sums over all values of the other ones."""
    things, table = numbers
    places = [things.index(thing) for thing in lot]
    parts = {}
    for values, number in table.items():
        parts.setdefault(values_of(values, places), []).append(number)
    return lot, {values: sum_of(some) for values, some in parts.items()}


def shares(sizes, things, some, whole):
    """For each row of values of things, ascending, one number divided by another one."""
    told = []
    for row in rows_at_nought(sizes, things):
        above, below = number_at(some, row), number_at(whole, row)
        if below[0] == 0:
            raise Nought(values_of(row, things))
        told.append(reduced(above[0] * below[1], above[1] * below[0]))
    return tuple(told)
