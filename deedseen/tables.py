"""Tables of a question: chances that need not be what is watched in any world."""

from deedseen.chances import is_chance
from deedseen.errors import BadTable, TooGreat
from deedseen.lots import is_tuple_of
from deedseen.questions import need_question
from deedseen.sums import numbers_of, summed
from deedseen.worlds import MOST_ROWS, are_sizes, many_rows


def need_table(question, table):
    """Return a table of a question, refuse what is none."""
    need_question(question)
    if not is_tuple_of(table, 2):
        raise BadTable(())
    sizes, chances = table
    if not are_sizes(question[0][0], sizes):
        raise BadTable((0,))
    if many_rows(sizes) > MOST_ROWS:
        raise TooGreat(MOST_ROWS)
    _need_chances(many_rows(sizes), chances)
    _, wholes = summed(numbers_of(sizes, chances), question[1])
    if any(whole != (1, 1) for whole in wholes.values()):
        raise BadTable((1,))
    return table


def _need_chances(count, chances):
    if not is_tuple_of(chances, count):
        raise BadTable((1,))
    for at, chance in enumerate(chances):
        if not is_chance(chance):
            raise BadTable((1, at))
