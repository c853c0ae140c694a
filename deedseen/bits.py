"""Worlds of bits: things and causes each of whose values tells some bits.

A BIT is (THING, KEY, SOURCES, TURN): the sum, modulo 2, of its sources, turned with
chances as TURN's weights are. A COIN is (NUMBER, KEY), a fair bit of the cause NUMBER.
SOURCES are keys of bits of the thing's parents and of coins of its causes.
"""

from deedseen.errors import TooGreat
from deedseen.lots import all_things, causes_with, parents_in
from deedseen.worlds import MOST_ROWS, rows_of

FAIR = (1, 1)
NOISY = (3, 1)
PLAIN = (1, 0)

# Two to this number is MOST_ROWS. No thing and no cause that comes of a road or a
# hedge has more than six bits then, so that none has more than 64 values.
_MOST_BITS = 14


def world_of_bits(drawing, bits, coins):
    """The world of a drawing in which all values tell bits."""
    if len(bits) + len(coins) > _MOST_BITS:
        raise TooGreat(MOST_ROWS)
    count, _, causes = drawing
    told = [[bit for bit in bits if bit[0] == thing] for thing in range(count)]
    tossed = [[key for place, key in coins if place == number] for number in range(len(causes))]
    sizes = tuple([_many_values(some) for some in told])
    hidden = tuple([(1,) * _many_values(keys) for keys in tossed])
    tables = [_table_of(_keys_ahead(drawing, told, tossed, thing), told[thing]) for thing in range(count)]
    return sizes, hidden, tuple(tables)


def _many_values(some):
    return len(rows_of([2] * len(some)))


def _keys_ahead(drawing, told, tossed, thing):
    """The keys of all that a thing's table goes by, in the order of its rows."""
    count, arrows, causes = drawing
    keys = [bit[1] for parent in parents_in(arrows, all_things(count), thing) for bit in told[parent]]
    return keys + [key for number in causes_with(causes, thing) for key in tossed[number]]


def _table_of(keys, bits):
    looks = [([keys.index(source) for source in sources], turn) for _, _, sources, turn in bits]
    return tuple([_weights_of(row, looks) for row in rows_of([2] * len(keys))])


def _weights_of(row, looks):
    weights = [1]
    for places, (stays, turns) in looks:
        odd = sum([row[place] for place in places]) % 2 == 1
        pair = (turns, stays) if odd else (stays, turns)
        weights = [weight * by for weight in weights for by in pair]
    return tuple(weights)


def next_things(count, arrows, ends):
    """For each thing that leads to ends, but is none: the next one on a shortest way, the least of these."""
    far = {end: 0 for end in ends}
    following = {}
    # Arrows go to later things: going backward, all that a thing leads to is known.
    for thing in reversed(range(count)):
        steps = [(far[end], end) for start, end in arrows if start == thing and end in far]
        if thing not in far and steps:
            length, following[thing] = min(steps)
            far[thing] = length + 1
    return following


def road_coins(road):
    """The coins of the causes of a road."""
    return [(kind, ("coin", kind)) for kind in road[1] if type(kind) is int]


def road_bits(road):
    """The bits of the things of a road, in its order."""
    bits = []
    for at, thing in enumerate(road[0]):
        sources = _coming(road, at)
        bits.append((thing, ("road", thing), sources, NOISY if sources else FAIR))
    return bits


def _coming(road, at):
    """The keys of what comes along a road to its thing of this number."""
    things, kinds = road
    sides = []
    if at > 0 and kinds[at - 1] != "from":
        sides.append((things[at - 1], kinds[at - 1]))
    if at < len(kinds) and kinds[at] != "to":
        sides.append((things[at + 1], kinds[at]))
    return [("coin", kind) if type(kind) is int else ("road", thing) for thing, kind in sides]


def way_bits(road, following):
    """The bits of the ways from the meetings of a road to what is seen."""
    bits = []
    for at, meeting in enumerate(road[0]):
        if len(_coming(road, at)) == 2:
            bits = bits + way_bits_from(meeting, following)
    return bits


def way_bits_from(begin, following):
    """The bits by which that of a thing of a road is handed on along a way."""
    bits = []
    thing, key = begin, ("road", begin)
    while thing in following:
        thing = following[thing]
        source, key = key, ("way", begin, thing)
        bits.append((thing, key, [source], NOISY))
    return bits
