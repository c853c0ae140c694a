"""Worlds in which a thing is watched no more, and back: the others are moved as before.

SOURCES are numbers: those of the drawing's causes, and behind them that of the new
cause, which all children of the hidden thing have. A LOOK tells a thing's weights:
(PARENTS, NUMBERS, TABLE), TABLE from the values of these parents and causes. VALUES
and COINS are dicts from things and from sources, or causes, to values.
"""

from math import gcd, lcm

from deedseen.chances import sum_of
from deedseen.errors import TooGreat
from deedseen.hiding import hidden, images_of
from deedseen.lots import all_things, all_without, causes_with, children_in, parents_in
from deedseen.sums import values_of
from deedseen.worlds import MOST_ROWS, MOST_VALUES, MOST_WEIGHT
from deedseen.worlds import hidden_sizes, key_sizes, many_rows, need_world, rows_of, weight_of


class Hiding:
    """A thing of a drawing, what is next to it, and what is left without it.

    `images` tells for each source what it moves without the thing, `others` the old
    numbers of all other things; `last` is the number of the new cause.
    """

    def __init__(self, drawing, thing):
        self.left = hidden(drawing, thing)
        self.images = images_of(drawing, thing)
        self.last = len(drawing[2])
        self.thing = thing
        self.others = all_without(drawing[0], (thing,))
        self.parents = parents_in(drawing[1], self.others, thing)
        self.children = children_in(drawing[1], self.others, thing)
        self.sources = causes_with(drawing[2], thing) + (self.last,)


def world_hidden(drawing, world, thing):
    """A world of the drawing without a thing, in which the others are moved as they were."""
    need_world(drawing, world)
    hiding = Hiding(drawing, thing)
    counts = hidden_sizes(world) + [_many_drawn(hiding, world)]
    groups = [[source for source, image in enumerate(hiding.images) if image == cause] for cause in hiding.left[2]]
    numbers = [many_rows(values_of(counts, group)) for group in groups]
    _need_few(max(numbers, default=1), MOST_VALUES)
    sizes = values_of(world[0], hiding.others)
    _need_few(many_rows(sizes) * many_rows(numbers), MOST_ROWS)
    weights = world[1] + ((1,) * counts[-1],)
    causes = tuple([_weights_together(values_of(weights, group)) for group in groups])
    looks = _looks_of(drawing, world)
    if len(hiding.children) > 1:
        looks[thing] = _drawn_look(hiding, looks[thing], counts[-1])
    tables = []
    for at in range(len(sizes)):
        loose = [source for source in range(hiding.last) if hiding.images[source] == (at,)]
        drawn = _drawn_rows(values_of(weights, loose), loose)
        rows = [(_old_values(hiding, values), _coins_apart(groups, counts, coins))
                for values, coins in _settings(hiding.left, (sizes, causes), at)]
        tables.append(tuple([_mixed(hiding, looks, hiding.others[at], row, drawn) for row in rows]))
    return sizes, causes, tuple(tables)


def _need_few(number, most):
    if number > most:
        raise TooGreat(most)


def _many_drawn(hiding, world):
    """How many values the new cause has: by it each row of the hidden thing's table can be worked out."""
    many = 1
    # With one child, or none, there is no such cause.
    if len(hiding.children) > 1:
        for weights in world[2][hiding.thing]:
            many = lcm(many, sum(weights))
            _need_few(many, MOST_VALUES)
    return many


def _weights_together(some):
    """The weights of a cause whose values are the rows of some causes' values."""
    return _least([weight_of(some, row) for row in rows_of([len(weights) for weights in some])])


def _least(weights):
    """Weights without a common divisor."""
    common = 0
    for weight in weights:
        common = gcd(common, weight)
    _need_few(max(weights) // common, MOST_WEIGHT)
    return tuple([weight // common for weight in weights])


def _looks_of(drawing, world):
    count, arrows, causes = drawing
    looks = []
    for thing in range(count):
        table = dict(zip(rows_of(key_sizes(drawing, world, thing)), world[2][thing]))
        looks.append((parents_in(arrows, all_things(count), thing), causes_with(causes, thing), table))
    return looks


def _settings(drawing, world, thing):
    """The values and coins of each row of a thing's table; the world's tables are not looked at."""
    count, arrows, causes = drawing
    parents = parents_in(arrows, all_things(count), thing)
    numbers = causes_with(causes, thing)
    rows = rows_of(key_sizes(drawing, world, thing))
    return [(dict(zip(parents, row)), dict(zip(numbers, row[len(parents):]))) for row in rows]


def _weights_at(look, values, coins):
    parents, numbers, table = look
    return table[values_of(values, parents) + values_of(coins, numbers)]


def _old_values(hiding, values):
    return {hiding.others[other]: value for other, value in values.items()}


def _coins_apart(groups, counts, coins):
    """The coins of the sources of which some causes come, for values of these."""
    told = {}
    for number, value in coins.items():
        rest = value
        for source in reversed(groups[number]):
            rest, told[source] = divmod(rest, counts[source])
    return told


def _drawn_look(hiding, look, many):
    """The hidden thing's look with the new cause, by whose values its own is worked out."""
    parents, numbers, table = look
    told = {}
    for key, weights in table.items():
        whole = sum(weights)
        values = [value for value, weight in enumerate(weights) for _ in range(weight * many // whole)]
        for coin, value in enumerate(values):
            told[key + (coin,)] = tuple([int(other == value) for other in range(len(weights))])
    return parents, numbers + (hiding.last,), told


def _drawn_rows(some, loose):
    """(WEIGHT, COINS) for all values of the sources that move one thing alone: its table takes them in."""
    rows = rows_of([len(weights) for weights in some])
    pairs = [(weight_of(some, row), dict(zip(loose, row))) for row in rows]
    return [(weight, coins) for weight, coins in pairs if weight]


def _mixed(hiding, looks, other, row, drawn):
    """The weights of a thing beside the hidden one, for values and coins, with all that is drawn besides."""
    values, known = row
    mixture = []
    for chance, more in drawn:
        coins = {**known, **more}
        for above, below, weights in _mixture(hiding, looks, other, values, coins):
            mixture.append((chance * above, below * sum(weights), weights))
    if len(mixture) == 1:
        return _least(mixture[0][2])
    sums = [_sum_at(mixture, value) for value in range(len(mixture[0][2]))]
    common = 1
    for _, whole in sums:
        common = lcm(common, whole)
    return _least([some * (common // whole) for some, whole in sums])


def _sum_at(mixture, value):
    return sum_of([(above * weights[value], below) for above, below, weights in mixture])


def _mixture(hiding, looks, other, values, coins):
    """(ABOVE, BELOW, WEIGHTS) for all values that the hidden thing can have: its chance, the other's weights."""
    if other not in hiding.children:
        return [(1, 1, _weights_at(looks[other], values, coins))]
    told = []
    weights = _weights_at(looks[hiding.thing], values, coins)
    for value, weight in enumerate(weights):
        if weight:
            there = {**values, hiding.thing: value}
            told.append((weight, sum(weights), _weights_at(looks[other], there, coins)))
    return told


def world_shown(drawing, world, thing):
    """A world of the drawing with a thing, for one of the drawing without it: the others are moved as they were."""
    # The world is one of the drawing without the thing, so the thing is looked at ahead of it.
    hiding = Hiding(drawing, thing)
    need_world(hiding.left, world)
    holders = [hiding.images.index(cause) for cause in hiding.left[2]]
    weights = _weights_held(hiding, world, holders)
    old_sizes = dict(zip(hiding.others, world[0]))
    counts = values_of(old_sizes, hiding.parents) + tuple([len(weights[source]) for source in hiding.sources])
    _need_few(many_rows(counts), MOST_VALUES)
    sizes = world[0][:thing] + (many_rows(counts),) + world[0][thing:]
    causes = tuple(weights[:-1])
    _need_few(many_rows(sizes) * many_rows([len(some) for some in causes]), MOST_ROWS)
    own = rows_of(counts)
    tables = []
    for other, look in zip(hiding.others, _looks_of(hiding.left, world)):
        settings = _settings(drawing, (sizes, causes), other)
        tables.append(tuple([_weights_read(hiding, holders, look, setting, own) for setting in settings]))
    tables.insert(thing, _telling_table(own, weights[-1]))
    return sizes, causes, tuple(tables)


def _weights_held(hiding, world, holders):
    """The weights of each source, if the first one of alike causes has the values."""
    told = [(1,)] * len(hiding.images)
    for number, source in enumerate(holders):
        told[source] = world[1][number]
    return told


def _telling_table(own, weights):
    """The table of a thing whose value is one of some rows: all that it goes by, and last what it draws itself."""
    ahead = [row[:-1] for row in own if row[-1] == 0]
    return tuple([tuple([weights[row[-1]] if row[:-1] == key else 0 for row in own]) for key in ahead])


def _weights_read(hiding, holders, look, setting, own):
    """The weights of a thing for values and coins; a child of the hidden thing reads the row that this one tells."""
    values, coins = setting
    if hiding.thing in values:
        told = own[values[hiding.thing]]
        beside = len(hiding.parents)
        values = {**values, **dict(zip(hiding.parents, told))}
        coins = {**coins, **dict(zip(hiding.sources, told[beside:]))}
    parents, numbers, table = look
    key = [values[hiding.others[parent]] for parent in parents] + [coins[holders[number]] for number in numbers]
    return table[tuple(key)]
