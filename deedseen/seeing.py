"""Seen or set: what is seen but may be taken as set, and what is told with more seen."""

from deedseen.checking import are_moves, least_move, road_back
from deedseen.errors import BadParameter, NoRow
from deedseen.lots import is_lot_of, lots_within, together
from deedseen.questions import need_question, need_thing_of, other_things, set_instead
from deedseen.solving import is_told


def moved_all(question):
    """The SET of the things of SEEN that are moved if one is moved as long as some may be."""
    need_question(question)
    moved = ()
    thing = least_move(question, moved)
    while thing is not None:
        moved = together(moved, (thing,))
        thing = least_move(question, moved)
    return moved


def moved_question(question, moved):
    """The question with things in SET, in the place of SEEN, that may be moved in turn."""
    need_question(question)
    if not are_moves(question, moved):
        raise BadParameter(moved)
    return set_instead(question, moved)


def back_road(question, thing):
    """The least road by which a thing of SEEN may not be moved."""
    need_question(question)
    need_thing_of(question[3], thing)
    road = road_back(question, (), thing)
    if road is None:
        raise NoRow()
    return road


def told_with(question, more):
    """Whether the answer is told if further things are seen."""
    need_question(question)
    if not is_lot_of(other_things(question), more):
        raise BadParameter(more)
    return _is_told_with(question, more)


def _is_told_with(question, more):
    drawing, tried, by_hand, seen, asked = question
    return is_told((drawing, tried, by_hand, together(seen, more), asked))


def least_seen(question):
    """The least SET of fewest further things with which, if they are seen, the answer is told."""
    need_question(question)
    # More seen may tell less: each lot is asked by itself.
    for more in lots_within(other_things(question)):
        if _is_told_with(question, more):
            return more
    raise NoRow()
