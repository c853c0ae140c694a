"""Drawings and lots: what is next to what, what leads where, rooms."""

from deedseen.errors import BadDrawing, BadLot, BadParameter
from deedseen.lots import causes_with, children_in, goal_in, is_closed, is_integer, is_lot, is_tuple_of
from deedseen.lots import leading_in, lies_in, meets, parents_in, rooms_in

_MOST_THINGS = 10
MOST_CAUSES = 20


def need_drawing(drawing):
    """Return a drawing, refuse what is none."""
    if not is_tuple_of(drawing, 3):
        raise BadDrawing(())
    count, arrows, causes = drawing
    if not is_integer(count, 1, _MOST_THINGS):
        raise BadDrawing((0,))
    _need_arrows(count, arrows)
    _need_causes(count, causes)
    return drawing


def _need_arrows(count, arrows):
    if type(arrows) is not tuple:
        raise BadDrawing((1,))
    ahead = ()
    for at, arrow in enumerate(arrows):
        # An arrow goes to a later thing: it is a lot of two.
        if not is_lot(count, arrow) or len(arrow) != 2 or arrow <= ahead:
            raise BadDrawing((1, at))
        ahead = arrow


def _need_causes(count, causes):
    if type(causes) is not tuple or len(causes) > MOST_CAUSES:
        raise BadDrawing((2,))
    ahead = ()
    for at, cause in enumerate(causes):
        if not is_lot(count, cause) or len(cause) < 2 or cause <= ahead:
            raise BadDrawing((2, at))
        ahead = cause


def is_drawing(value):
    """Whether a value is a drawing."""
    try:
        need_drawing(value)
    except BadDrawing:
        return False
    return True


def need_lot(drawing, value):
    """Return a lot of things of a drawing, refuse what is none."""
    need_drawing(drawing)
    if not is_lot(drawing[0], value):
        raise BadLot(value)
    return value


def need_lot_within(drawing, lot, value):
    """Return a lot that lies in a lot, refuse what is no such one."""
    need_lot(drawing, lot)
    need_lot(drawing, value)
    if not lies_in(value, lot):
        raise BadLot(value)
    return value


def need_thing(drawing, value):
    """Return a thing of a drawing, refuse what is none."""
    need_drawing(drawing)
    if not is_integer(value, 0, drawing[0] - 1):
        raise BadParameter(value)
    return value


def parents_of(drawing, lot, thing):
    """The lot of a thing's parents that are in a lot."""
    need_lot(drawing, lot)
    need_thing(drawing, thing)
    return parents_in(drawing[1], lot, thing)


def children_of(drawing, lot, thing):
    """The lot of a thing's children that are in a lot."""
    need_lot(drawing, lot)
    need_thing(drawing, thing)
    return children_in(drawing[1], lot, thing)


def causes_of(drawing, thing):
    """The SET of the numbers of the causes that have a thing."""
    need_thing(drawing, thing)
    return causes_with(drawing[2], thing)


def linked(drawing, one, other):
    """Whether some cause has both of two unlike things."""
    need_thing(drawing, one)
    need_thing(drawing, other)
    if one == other:
        raise BadParameter(other)
    return any(one in cause and other in cause for cause in drawing[2])


def leading(drawing, lot, goal):
    """The lot of those things of a lot that lead, within it, to a goal in it."""
    need_lot_within(drawing, lot, goal)
    return leading_in(drawing[1], lot, goal)


def rooms(drawing, lot):
    """The tuple of the rooms of a lot, ascending."""
    need_lot(drawing, lot)
    return rooms_in(drawing[2], lot)


def closed_up(drawing, lot, some):
    """Whether all parents, within a lot, of each of some things are among these."""
    need_lot_within(drawing, lot, some)
    return is_closed(drawing[1], lot, some)


def goal_of(drawing, shut, ends):
    """The lot of what leads to the ends through things outside of a shut lot."""
    need_lot(drawing, shut)
    need_lot(drawing, ends)
    if meets(ends, shut):
        raise BadLot(ends)
    return goal_in(drawing, shut, ends)
