"""Whether a question is told, with the paper or the hedge that shows it."""

from deedseen.checking import least_move
from deedseen.errors import BadParameter
from deedseen.lots import is_integer, leading_in, rooms_in
from deedseen.questions import goal_behind, need_question
from deedseen.steps import right_lots

_MOST_ASKED = 1000
_BEGINNING = ((), (), (), None, ())


def solve(question):
    """("told", PAPER) or ("not", HEDGE)."""
    need_question(question)
    state, further = None, _BEGINNING
    while state != further:
        state, further = further, _next_state(question, further)
    moved, steps, _, now, _ = state
    if now is None:
        return "told", (moved, steps)
    small, place = now
    return "not", (moved, right_lots(question, steps)[place], small)


def is_told(question):
    """Whether the answer is told by what is watched."""
    return solve(question)[0] == "told"


def solving_after(question, many):
    """The state (MOVED, STEPS, DONE, NOW, LEFT) of the search behind so many steps."""
    need_question(question)
    if not is_integer(many, 0, _MOST_ASKED):
        raise BadParameter(many)
    state = _BEGINNING
    for _ in range(many):
        state = _next_state(question, state)
    return state


def _next_state(question, state):
    """The state behind one step more; the same one at an end."""
    moved, steps, done, now, left = state
    if not steps:
        return _moved_on(question, moved)
    if now is not None:
        return _narrowed(question, state)
    if left:
        return moved, steps, done, (left[0], 0), left[1:]
    if steps[-1][0] == "join":
        return state
    return moved, steps + (("join", tuple(sorted(done))),), done, None, ()


def _moved_on(question, moved):
    thing = least_move(question, moved)
    if thing is not None:
        return moved + (thing,), (), (), None, ()
    return moved, (("watched",),), (), None, rooms_in(question[0][2], goal_behind(question, moved))


def _narrowed(question, state):
    """One step more from all that is watched to a room of GOAL."""
    moved, steps, done, (room, place), left = state
    _, arrows, causes = question[0]
    lot = right_lots(question, steps)[place]
    if lot == room:
        return moved, steps, done + (place,), None, left
    # A room of GOAL is bound together: each of its things is in the same room of the lot.
    part = [one for one in rooms_in(causes, lot) if room[0] in one][0]
    leads = leading_in(arrows, lot, room)
    if part != lot:
        step = ("part", place, part)
    elif leads != lot:
        step = ("sum", place, leads)
    else:
        return state
    return moved, steps + (step,), done, (room, len(steps)), left
