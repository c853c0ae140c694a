"""Two worlds in which the same is watched, but the answers are unlike.

They are worlds of bits, made of a hedge. The keys of the bits are ("first", THING),
("second", THING) and ("end", THING), those of a road's bits as in deedseen.bits; the
coin of a link has the key ("link", ONE, OTHER). ROOTS are the things of SMALL that
have no child in SMALL, LINKS are (ONE, OTHER, NUMBER), the number that of a cause.
"""

from deedseen.answers import answer_in, watched_in
from deedseen.bits import NOISY, PLAIN, next_things, road_bits, road_coins, way_bits, world_of_bits
from deedseen.checking import is_hedge_of, road_back
from deedseen.errors import BadHedge
from deedseen.lots import children_in, is_tuple_of, lot_without, meets, together
from deedseen.questions import need_question, things_in
from deedseen.roads import cut_drawing
from deedseen.worlds import is_row, is_world, rows_of


def two_worlds(question, hedge):
    """Two worlds that a hedge shows, and a row at which their answers are unlike."""
    need_question(question)
    if not is_hedge_of(question, hedge):
        raise BadHedge(hedge)
    _, arrows, causes = question[0]
    moved, great, small = hedge
    inner = _joining_links(causes, small[:1], small)
    links = inner + _joining_links(causes, small, great)
    feeds = _feeds(arrows, great, small)
    in_one = {thing: _coming(great, links, feeds, thing) for thing in great}
    in_other = {thing: _coming(small, inner, feeds, thing) if thing in small else in_one[thing] for thing in great}
    worlds = [_world_of(question, moved, links, _roots(small, feeds), sources) for sources in (in_one, in_other)]
    # In each row the chances of ASKED are unlike: what sets them apart is a bit that
    # all rows tell of, each of them as much as any other one.
    return worlds[0], worlds[1], (0,) * len(things_in(question))


def _joining_links(causes, joined, lot):
    """Links that join all of a lot to a part of it, which is joined already, as a tree."""
    links = []
    while len(joined) < len(lot):
        found = [(one, other, number) for number, cause in enumerate(causes) for one in joined
                 for other in lot_without(lot, joined) if one in cause and other in cause]
        links.append(min(found))
        joined = joined + (links[-1][1],)
    return links


def _feeds(arrows, great, small):
    """The child that each thing of GREAT feeds, for those that feed any."""
    feeds = {}
    for thing in great:
        fed = children_in(arrows, small if thing in small else great, thing)
        if fed:
            feeds[thing] = fed[0]
    return feeds


def _roots(small, feeds):
    return tuple([thing for thing in small if thing not in feeds])


def _coming(lot, links, feeds, thing):
    """The keys of what a first bit is the sum of, if just a lot and some links count."""
    fed = [("first", other) for other in lot if other in feeds and feeds[other] == thing]
    return fed + [("link", one, other) for one, other, _ in links if thing in (one, other)]


def _world_of(question, moved, links, roots, sources):
    """The world in which first bits have some sources."""
    bits = [(thing, ("first", thing), sources[thing], NOISY if thing == roots[0] else PLAIN) for thing in sources]
    coins = [(number, ("link", one, other)) for one, other, number in links]
    seconds = _second_bits(question, moved, roots)
    lasts = _last_things(question, moved, roots, seconds)
    if meets(lasts, question[4]):
        return world_of_bits(question[0], bits + seconds, coins)
    road = road_back(question, moved, lasts[0])
    bits = _put_down(bits + seconds, roots, road) + road_bits(road)[1:] + _meeting_bits(question, moved, road)
    return world_of_bits(question[0], bits, coins + road_coins(road))


def _told_things(question, moved):
    """What is seen, behind the moves, or asked."""
    return together(lot_without(question[3], moved), question[4])


def _second_bits(question, moved, roots):
    """The bits of the ways from the roots to what is seen or asked."""
    told = _told_things(question, moved)
    shut = together(question[2], moved)
    arrows = [(start, end) for start, end in question[0][1] if start not in shut and end not in shut]
    following = next_things(question[0][0], arrows, told)
    sources = {}
    for thing in sorted(following):
        if thing in roots:
            sources.setdefault(following[thing], []).append(("first", thing))
        # Arrows go to later things: all that comes to the thing is known.
        if thing in sources:
            sources.setdefault(following[thing], []).append(("second", thing))
    return [(thing, ("second", thing), sources[thing], NOISY) for thing in sources]


def _last_things(question, moved, roots, seconds):
    """The things at which the ways end, ascending."""
    reached = together(roots, tuple([bit[0] for bit in seconds]))
    return tuple([thing for thing in _told_things(question, moved) if thing in reached])


def _put_down(bits, roots, road):
    """The bits, those that end where a road begins being told as the sum with what comes along it alone."""
    begin, _, coming, _ = road_bits(road)[0]
    keys = [("second", begin)] + [("first", root) for root in roots if root == begin]
    ends = [bit for bit in bits if bit[1] in keys]
    sources = coming + [source for bit in ends for source in bit[2]]
    turn = NOISY if any(bit[3] == NOISY for bit in ends) else PLAIN
    return [bit for bit in bits if bit not in ends] + [(begin, ("end", begin), sources, turn)]


def _meeting_bits(question, moved, road):
    """The bits of the ways from the meetings of a road to what is seen."""
    drawing = question[0]
    begin = road[0][:1]
    arrows = cut_drawing(drawing, together(question[2], moved), begin)[1]
    return way_bits(road, next_things(drawing[0], arrows, lot_without(question[3], moved + begin)))


def is_two_worlds(question, value):
    """Whether a value is two open worlds in which the same is watched, and a row with unlike answers."""
    need_question(question)
    if not is_tuple_of(value, 3):
        return False
    one, other, row = value
    if not is_world(question[0], one) or not is_world(question[0], other) or one[0] != other[0]:
        return False
    sizes = [one[0][thing] for thing in things_in(question)]
    if not is_row(sizes, row):
        return False
    chances = watched_in(question, one)
    if any(chance[0] == 0 for chance in chances) or chances != watched_in(question, other):
        return False
    at = rows_of(sizes).index(row)
    return answer_in(question, one)[at] != answer_in(question, other)[at]

