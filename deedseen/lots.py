"""Lots, and what arrows and causes do in them.

Nothing is checked here but what a function is there to judge. The functions for
users check what they are handed, and then call these.
"""


def is_tuple_of(value, many):
    """Whether a value is a tuple of so many things."""
    return type(value) is tuple and len(value) == many


def is_integer(value, least, most):
    """Whether a value is an integer within bounds; True and False are none."""
    return type(value) is int and least <= value <= most


def is_lot(count, value):
    """Whether a value is an ascending tuple of unlike things below a count."""
    if type(value) is not tuple:
        return False
    least = 0
    for thing in value:
        if not is_integer(thing, least, count - 1):
            return False
        least = thing + 1
    return True


def is_row_of(lot, value):
    """Whether a value is a tuple of unlike things of a lot, in any order."""
    if type(value) is not tuple or len(value) > len(lot):
        return False
    # True is equal to 1: the kind is asked ahead of whether the lot has it.
    if not all(type(thing) is int and thing in lot for thing in value):
        return False
    return len(set(value)) == len(value)


def is_lot_of(lot, value):
    """Whether a value is a lot that lies in a lot."""
    return is_row_of(lot, value) and value == tuple(sorted(value))


def lies_in(lot, other):
    """Whether all things of a lot are in another one."""
    return all(thing in other for thing in lot)


def meets(lot, other):
    """Whether some thing of a lot is in another one."""
    return any(thing in other for thing in lot)


def together(lot, other):
    """The lot of what is in one of two, or in both."""
    return tuple(sorted(set(lot + other)))


def lot_without(lot, other):
    """The lot of what is in the first one alone."""
    return tuple(thing for thing in lot if thing not in other)


def lots_within(lot):
    """All lots that lie in a lot, those of fewer things ahead, of as many in ascending order."""
    found = [()]
    for thing in lot:
        found = found + [some + (thing,) for some in found]
    return [some for _, some in sorted([(len(some), some) for some in found])]


def all_things(count):
    """The lot of all things below a count."""
    return tuple(range(count))


def all_without(count, lot):
    """The lot of all things below a count that are not in a lot."""
    return tuple(thing for thing in range(count) if thing not in lot)


def parents_in(arrows, lot, thing):
    """The lot of a thing's parents that are in a lot."""
    return tuple(start for start, end in arrows if end == thing and start in lot)


def children_in(arrows, lot, thing):
    """The lot of a thing's children that are in a lot."""
    return tuple(end for start, end in arrows if start == thing and end in lot)


def causes_with(causes, thing):
    """The numbers of the causes that have a thing."""
    return tuple(number for number, cause in enumerate(causes) if thing in cause)


def leading_in(arrows, lot, goal):
    """The things of a lot that lead, within it, to a goal that lies in it."""
    leads = set(goal)
    # Arrows go to later things: going backward, all arrows out of a thing have
    # been looked at ahead of any arrow into it. So once through is enough.
    for start, end in reversed(arrows):
        if start in lot and end in leads:
            leads.add(start)
    return tuple(sorted(leads))


def rooms_in(causes, lot):
    """The rooms of a lot, ascending."""
    parts = [(thing,) for thing in lot]
    for cause in causes:
        met = [part for part in parts if meets(part, cause)]
        if len(met) > 1:
            room = tuple(sorted([thing for part in met for thing in part]))
            parts = [part for part in parts if part not in met] + [room]
    return tuple(sorted(parts))


def is_closed(arrows, lot, some):
    """Whether all parents within a lot of some of its things are among these."""
    return all(start in some for start, end in arrows if end in some and start in lot)


def goal_in(drawing, closed, ends):
    """The things outside of a closed lot that lead, outside of it, to the ends."""
    count, arrows, _ = drawing
    return leading_in(arrows, all_without(count, closed), ends)
