"""Worlds of cut drawings in which things hang together along an open road."""

from deedseen.bits import next_things, road_bits, road_coins, way_bits, world_of_bits
from deedseen.chances import times
from deedseen.lots import all_things, lot_without, together
from deedseen.roads import cut_drawing, need_ends, open_road
from deedseen.sums import number_at, numbers_of, rows_at_nought, summed
from deedseen.worlds import factor_in, is_world


def hanging(drawing, over, under, one, others, seen):
    """A world of the cut drawing in which a thing and others hang together."""
    road = open_road(drawing, over, under, one, others, seen)
    cut = cut_drawing(drawing, over, under)
    bits = road_bits(road) + way_bits(road, next_things(cut[0], cut[1], seen))
    # The road tells causes by their numbers in the drawing that isn't cut.
    lots = [lot_without(cause, over) for cause in drawing[2]]
    coins = [(cut[2].index(lots[number]), key) for number, key in road_coins(road)]
    return world_of_bits(cut, bits, coins)


def is_hanging(drawing, over, under, one, others, seen, value):
    """Whether a value is a world of the cut drawing, open, in which they hang together."""
    need_ends(drawing, over, under, one, others, seen)
    cut = cut_drawing(drawing, over, under)
    if not is_world(cut, value):
        return False
    chances = factor_in(cut, value, all_things(cut[0]))
    if not all(chance[0] > 0 for chance in chances):
        return False
    return _hang_together(value[0], chances, one, others, seen)


def _hang_together(sizes, chances, one, others, seen):
    with_one, with_others = together((one,), seen), together(others, seen)
    every = together(with_one, others)
    joined = summed(numbers_of(sizes, chances), every)
    beside, ones, rest = summed(joined, seen), summed(joined, with_one), summed(joined, with_others)
    rows = rows_at_nought(sizes, every)
    return any(_product(joined, beside, row) != _product(ones, rest, row) for row in rows)


def _product(some, others, row):
    return times(number_at(some, row), number_at(others, row))
