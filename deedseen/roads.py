"""Roads: which things are bound together in a drawing of which a part is cut."""

from deedseen.drawings import need_lot, need_thing
from deedseen.errors import BadLot, NoRow
from deedseen.lots import all_things, is_integer, is_row_of, is_tuple_of, leading_in, lot_without, meets

# Arrows come ahead of all causes, whose numbers go from 0 on.
_ARROW = -1


def cut_drawing(drawing, over, under):
    """The drawing without arrows into a lot and out of another, and causes of the first."""
    need_lot(drawing, over)
    need_lot(drawing, under)
    return drawing[0], _cut_arrows(drawing, over, under), _cut_causes(drawing, over)


def _cut_arrows(drawing, over, under):
    return tuple([(start, end) for start, end in drawing[1] if end not in over and start not in under])


def _cut_causes(drawing, over):
    left = [lot_without(cause, over) for cause in drawing[2]]
    return tuple(sorted({cause for cause in left if len(cause) > 1}))


def need_ends(drawing, over, under, one, others, seen):
    """Refuse what is wrong of the parameters that all functions of roads have."""
    need_lot(drawing, over)
    need_lot(drawing, under)
    need_thing(drawing, one)
    need_lot(drawing, others)
    if not others or one in others:
        raise BadLot(others)
    need_lot(drawing, seen)
    if one in seen or meets(others, seen):
        raise BadLot(seen)


def open_road(drawing, over, under, one, others, seen):
    """The least open road from a thing to others."""
    need_ends(drawing, over, under, one, others, seen)
    road = least_road(drawing, over, under, one, others, seen)
    if road is None:
        raise NoRow()
    return road


def shut(drawing, over, under, one, others, seen):
    """Whether there is no open road from a thing to others."""
    need_ends(drawing, over, under, one, others, seen)
    return least_road(drawing, over, under, one, others, seen) is None


def least_road(drawing, over, under, one, others, seen):
    """The least open road or None, of parameters that are known to be right.

    Rests are grown from the ends, by one thing each time: the least rest of a road
    for each thing, and for whether what is ahead of it points into it. The first
    time that some rest can begin at the thing asked for, the road is a shortest
    one; so it goes through no thing twice, for without the part between it would
    be open, too, and shorter.
    """
    links = _links_of(drawing, over, under)
    meetable = _meetable(drawing, over, under, seen)
    rests = {(end, into): ((end,), ()) for end in others for into in (False, True)}
    for _ in range(drawing[0] - 1):
        rest = _least_rest(one, links[one], rests)
        if rest is not None:
            return _road_of(rest)
        rests = _longer_rests(links, meetable, seen, rests)
    return None


def _meetable(drawing, over, under, seen):
    """The things from which arrows that are not cut lead to a seen thing."""
    return leading_in(_cut_arrows(drawing, over, under), all_things(drawing[0]), seen)


def _links_of(drawing, over, under):
    """For each thing the pairs (OTHER, KIND) for what a road may do next behind it.

    Causes of the same two things are alike for a road, so the least one will do.
    """
    links = [[] for _ in range(drawing[0])]
    for start, end in _cut_arrows(drawing, over, under):
        links[start].append((end, _ARROW))
        links[end].append((start, _ARROW))
    bound = {}
    for number, cause in enumerate(drawing[2]):
        left = lot_without(cause, over)
        pairs = [(one, other) for one in left for other in left if one != other]
        for pair in pairs:
            if pair not in bound:
                bound[pair] = True
                links[pair[0]].append((pair[1], number))
    return links


def _points_into(thing, other, kind):
    """Whether a kind between a thing and the other one, behind it, points into the other one."""
    # An arrow goes to the later thing.
    return kind != _ARROW or thing < other


def _least_rest(thing, links, rests):
    """The least rest that begins at a thing and goes on by one of some links, or None."""
    found = []
    for other, kind in links:
        place = (other, _points_into(thing, other, kind))
        if place in rests:
            things, kinds = rests[place]
            found.append(((thing,) + things, (kind,) + kinds))
    return min(found, default=None)


def _longer_rests(links, meetable, seen, rests):
    longer = {}
    for thing, all_links in enumerate(links):
        for into in (False, True):
            let = [link for link in all_links if _is_let(thing, into, link, meetable, seen)]
            rest = _least_rest(thing, let, rests)
            if rest is not None:
                longer[thing, into] = rest
    return longer


def _is_let(thing, into, link, meetable, seen):
    """Whether a road may come to an inner thing and go on so."""
    other, kind = link
    if into and _points_into(other, thing, kind):
        return thing in meetable
    return thing not in seen


def _road_of(rest):
    things, kinds = rest
    told = [_kind_told(thing, other, kind) for thing, other, kind in zip(things, things[1:], kinds)]
    return things, tuple(told)


def _kind_told(thing, other, kind):
    if kind != _ARROW:
        return kind
    return "to" if thing < other else "from"


def is_open_road(drawing, over, under, one, others, seen, value):
    """Whether a value is an open road from a thing to others."""
    need_ends(drawing, over, under, one, others, seen)
    if not _has_road_form(drawing[0], value):
        return False
    things, kinds = value
    if things[0] != one or things[-1] not in others:
        return False
    arrows = _cut_arrows(drawing, over, under)
    pairs = list(zip(things, things[1:]))
    if not all([_is_kind(drawing, arrows, over, pair, kind) for pair, kind in zip(pairs, kinds)]):
        return False
    meetable = _meetable(drawing, over, under, seen)
    ways = list(zip(things[1:], kinds, kinds[1:]))
    return all([_is_passed(thing, before, behind, meetable, seen) for thing, before, behind in ways])


def _has_road_form(count, value):
    """Whether a value is a pair of unlike things in a row, two at least, and one kind less."""
    if not is_tuple_of(value, 2) or not is_row_of(all_things(count), value[0]):
        return False
    return len(value[0]) > 1 and is_tuple_of(value[1], len(value[0]) - 1)


def _is_kind(drawing, arrows, over, pair, kind):
    if type(kind) is str:
        start, end = pair
        return (kind == "to" and pair in arrows) or (kind == "from" and (end, start) in arrows)
    if not is_integer(kind, 0, len(drawing[2]) - 1) or meets(pair, over):
        return False
    cause = drawing[2][kind]
    return pair[0] in cause and pair[1] in cause


def _is_passed(thing, before, behind, meetable, seen):
    if before != "from" and behind != "to":
        return thing in meetable
    return thing not in seen
