"""The checker: which things may be moved, what is a paper, what is a hedge."""

from deedseen.errors import BadParameter
from deedseen.lots import is_lot, is_row_of, is_tuple_of, leading_in, lies_in, lot_without, meets, rooms_in, together
from deedseen.questions import goal_behind, need_question
from deedseen.roads import least_road
from deedseen.steps import are_steps, right_lots


def may_move(question, moved, thing):
    """Whether a thing of SEEN may be moved behind others."""
    need_question(question)
    seen = question[3]
    if not is_row_of(seen, moved):
        raise BadParameter(moved)
    if type(thing) is not int or thing not in seen or thing in moved:
        raise BadParameter(thing)
    return can_move(question, moved, thing)


def can_move(question, moved, thing):
    """The same as may_move, of parameters that are known to be right."""
    return road_back(question, moved, thing) is None


def road_back(question, moved, thing):
    """The least road by which a thing of SEEN may not be moved behind others, or None."""
    drawing, _, by_hand, seen, asked = question
    others = lot_without(together(by_hand, seen), (thing,))
    return least_road(drawing, together(by_hand, moved), (thing,), thing, asked, others)


def least_move(question, moved):
    """The least thing of SEEN that may be moved behind others, or None."""
    for thing in lot_without(question[3], moved):
        if can_move(question, moved, thing):
            return thing
    return None


def are_moves(question, value):
    """Whether a value is a tuple of things of SEEN, each to be moved behind those ahead of it."""
    if not is_row_of(question[3], value):
        return False
    return all(can_move(question, value[:at], thing) for at, thing in enumerate(value))


def is_paper(question, value):
    """Whether a value is a paper."""
    need_question(question)
    return is_paper_of(question, value)


def is_paper_of(question, value):
    """The same as is_paper, of what is known to be a question."""
    if not is_tuple_of(value, 2):
        return False
    moved, steps = value
    if not are_steps(question, steps) or not steps or not are_moves(question, moved):
        return False
    return right_lots(question, steps)[-1] == goal_behind(question, moved)


def is_hedge(question, value):
    """Whether a value is a hedge."""
    need_question(question)
    return is_hedge_of(question, value)


def is_hedge_of(question, value):
    """The same as is_hedge, of what is known to be a question."""
    if not is_tuple_of(value, 3):
        return False
    moved, great, small = value
    count, _, causes = question[0]
    if not is_lot(count, great) or not is_lot(count, small) or not are_moves(question, moved):
        return False
    if least_move(question, moved) is not None:
        return False
    return small in rooms_in(causes, goal_behind(question, moved)) and _outgrows(question, great, small)


def _outgrows(question, great, small):
    """Whether GREAT is as it has to be, beside a room of GOAL."""
    _, arrows, causes = question[0]
    if great == small or not lies_in(small, great) or meets(great, question[1]):
        return False
    return rooms_in(causes, great) == (great,) and leading_in(arrows, great, small) == great
