"""Steps: the factors of which lots they stand for, and whether they are right."""

from deedseen.errors import BadSteps, TooGreat
from deedseen.lots import all_without, is_closed, is_integer, is_lot, lies_in, meets, rooms_in
from deedseen.questions import need_question

_MOST_STEPS = 400


def lots_of(question, steps):
    """The tuple of the lots of right steps."""
    need_question(question)
    if type(steps) is not tuple:
        raise BadSteps(())
    if len(steps) > _MOST_STEPS:
        raise TooGreat(_MOST_STEPS)
    lots = right_lots(question, steps)
    if len(lots) < len(steps):
        raise BadSteps((len(lots),))
    return lots


def is_steps(question, value):
    """Whether a value is a tuple of right steps, not too many."""
    need_question(question)
    return are_steps(question, value)


def are_steps(question, value):
    """The same as is_steps, of what is known to be a question."""
    if type(value) is not tuple or len(value) > _MOST_STEPS:
        return False
    return len(right_lots(question, value)) == len(value)


def right_lots(question, steps):
    """The lots of the steps ahead of the first one that is not right."""
    lots = []
    for step in steps:
        lot = _lot_of(question, lots, step)
        if lot is None:
            break
        lots.append(lot)
    return tuple(lots)


def _lot_of(question, lots, step):
    """The lot of a step behind those of some lots, None if it isn't right."""
    if type(step) is not tuple or not step or type(step[0]) is not str:
        return None
    if step[0] == "watched" and len(step) == 1:
        return all_without(question[0][0], question[1])
    if step[0] == "join" and len(step) == 2:
        return _joined_lot(question[0][2], lots, step[1])
    if step[0] in ("sum", "part") and len(step) == 3:
        return _lesser_lot(question[0], lots, step)
    return None


def _joined_lot(causes, lots, places):
    if not is_lot(len(lots), places) or not places:
        return None
    parts = [lots[place] for place in places]
    things = [thing for part in parts for thing in part]
    if len(set(things)) < len(things) or any(_binds(cause, parts) for cause in causes):
        return None
    return tuple(sorted(things))


def _binds(cause, parts):
    """Whether a cause has things of more than one of some lots without a common thing."""
    return len([part for part in parts if meets(part, cause)]) > 1


def _lesser_lot(drawing, lots, step):
    word, number, lot = step
    count, arrows, causes = drawing
    if not is_integer(number, 0, len(lots) - 1) or not is_lot(count, lot) or not lot:
        return None
    whole = lots[number]
    if not lies_in(lot, whole):
        return None
    right = is_closed(arrows, whole, lot) if word == "sum" else _are_rooms(causes, whole, lot)
    return lot if right else None


def _are_rooms(causes, whole, lot):
    """Whether a lot is some rooms of a greater one, each of them whole."""
    return all(lies_in(room, lot) or not meets(room, lot) for room in rooms_in(causes, whole))
