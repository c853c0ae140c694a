"""Worlds of a drawing, and the factors of lots by plain sums."""

from deedseen.chances import reduced, sum_of
from deedseen.drawings import need_drawing, need_lot
from deedseen.errors import BadParameter, BadWorld, DeedError, TooGreat
from deedseen.lots import all_things, all_without, causes_with, is_integer, is_tuple_of, parents_in

MOST_ROWS = 2 ** 14
MOST_VALUES = 64
MOST_WEIGHT = 10 ** 6


def need_world(drawing, world):
    """Return a world of a drawing, refuse what is none."""
    need_drawing(drawing)
    if not is_tuple_of(world, 3):
        raise BadWorld(())
    sizes, hidden, tables = world
    if not are_sizes(drawing[0], sizes):
        raise BadWorld((0,))
    _need_hidden(len(drawing[2]), hidden)
    if many_rows(sizes) * many_rows(hidden_sizes(world)) > MOST_ROWS:
        raise TooGreat(MOST_ROWS)
    if not is_tuple_of(tables, drawing[0]):
        raise BadWorld((2,))
    for thing in range(drawing[0]):
        _need_table_of(drawing, world, thing)
    return world


def is_world(drawing, value):
    """Whether a value is a world of what is known to be a drawing."""
    try:
        need_world(drawing, value)
    except DeedError:
        return False
    return True


def are_sizes(count, value):
    """Whether a value is a tuple with a number of values for each of so many things."""
    return is_tuple_of(value, count) and all(is_integer(size, 1, MOST_VALUES) for size in value)


def _need_hidden(count, hidden):
    if not is_tuple_of(hidden, count):
        raise BadWorld((1,))
    for at, weights in enumerate(hidden):
        if type(weights) is not tuple or len(weights) > MOST_VALUES or not _are_weights(weights):
            raise BadWorld((1, at))


def _are_weights(value):
    # Of no weight at all none is above 0.
    return all(is_integer(weight, 0, MOST_WEIGHT) for weight in value) and any(value)


def _need_table_of(drawing, world, thing):
    table = world[2][thing]
    if not is_tuple_of(table, many_rows(key_sizes(drawing, world, thing))):
        raise BadWorld((2, thing))
    for at, weights in enumerate(table):
        if not is_tuple_of(weights, world[0][thing]) or not _are_weights(weights):
            raise BadWorld((2, thing, at))


def hidden_sizes(world):
    """How many values each cause has."""
    return [len(weights) for weights in world[1]]


def many_rows(sizes):
    """How many rows of values there are."""
    many = 1
    for size in sizes:
        many = many * size
    return many


def rows_of(sizes):
    """The list of the rows of values, ascending."""
    rows = [()]
    for size in sizes:
        rows = [row + (value,) for row in rows for value in range(size)]
    return rows


def is_row(sizes, value):
    """Whether a value is a row of values."""
    if not is_tuple_of(value, len(sizes)):
        return False
    return all(is_integer(one, 0, size - 1) for one, size in zip(value, sizes))


def key_sizes(drawing, world, thing):
    """How many values each thing and cause has by which a thing's table goes."""
    count, arrows, causes = drawing
    sizes = [world[0][parent] for parent in parents_in(arrows, all_things(count), thing)]
    return sizes + [len(world[1][number]) for number in causes_with(causes, thing)]


def factor(drawing, world, lot):
    """The factor of a lot: a chance for each row, ascending."""
    need_world(drawing, world)
    need_lot(drawing, lot)
    return factor_in(drawing, world, lot)


def factor_in(drawing, world, lot):
    """The same as factor, of parameters that are known to be right."""
    cause_rows = rows_of(hidden_sizes(world))
    weights = [weight_of(world[1], row) for row in cause_rows]
    looks = [_look_of(drawing, world, thing, cause_rows) for thing in lot]
    return tuple([_chance_of(row, looks, weights) for row in rows_of(world[0])])


def weight_of(hidden, row):
    """The weight of a row of causes' values, of those of all of them together."""
    weight = 1
    for weights, value in zip(hidden, row):
        weight = weight * weights[value]
    return weight


def _look_of(drawing, world, thing, cause_rows):
    """What tells a thing's chances: (THING, PARENTS, STARTS, TABLE).

    PARENTS are pairs of a parent and how far on in the table its next value leads,
    STARTS has for each row of the causes' values how far on this row leads, TABLE
    has the weights of each row of the table and what they are together.
    """
    count, arrows, causes = drawing
    keys = key_sizes(drawing, world, thing)
    strides = [many_rows(keys[at + 1:]) for at in range(len(keys))]
    parents = parents_in(arrows, all_things(count), thing)
    numbers = causes_with(causes, thing)
    by_cause = list(zip(numbers, strides[len(parents):]))
    starts = [sum([row[number] * stride for number, stride in by_cause]) for row in cause_rows]
    table = [(weights, sum(weights)) for weights in world[2][thing]]
    return thing, list(zip(parents, strides)), starts, table


def _chance_of(row, looks, weights):
    """The chance of a row: the sum over all rows of the causes' values."""
    pairs = [(weight, 1) for weight in weights]
    for thing, parents, starts, table in looks:
        first = sum([row[parent] * stride for parent, stride in parents])
        told = [table[first + start] for start in starts]
        value = row[thing]
        pairs = [(above * some[value], below * whole) for (above, below), (some, whole) in zip(pairs, told)]
    above, below = sum_of([pair for pair in pairs if pair[0]])
    return reduced(above, below * sum(weights))


def set_chances(drawing, world, deed):
    """The chance of each row if the things of a deed are set by hand."""
    need_world(drawing, world)
    if not _is_deed(world[0], deed):
        raise BadParameter(deed)
    things = [thing for thing, _ in deed]
    chances = factor_in(drawing, world, all_without(drawing[0], things))
    rows = rows_of(world[0])
    return tuple([chance if _agrees(row, deed) else (0, 1) for row, chance in zip(rows, chances)])


def _is_deed(sizes, value):
    if type(value) is not tuple:
        return False
    least = 0
    for pair in value:
        if not is_tuple_of(pair, 2) or not is_integer(pair[0], least, len(sizes) - 1):
            return False
        if not is_integer(pair[1], 0, sizes[pair[0]] - 1):
            return False
        least = pair[0] + 1
    return True


def _agrees(row, deed):
    return all(row[thing] == value for thing, value in deed)


def is_open(drawing, world, tried):
    """Whether each chance is above 0 that is watched if the tried things are set by hand."""
    need_world(drawing, world)
    need_lot(drawing, tried)
    watched = factor_in(drawing, world, all_without(drawing[0], tried))
    return all(chance[0] > 0 for chance in watched)
