"""Sessions: a drawing is mended by deeds, and asked."""

from deedseen.drawings import MOST_CAUSES, is_drawing, need_drawing
from deedseen.errors import BadDeed, BadParameter, NoRow, TooGreat
from deedseen.hiding import hidden
from deedseen.lots import is_integer, is_lot, is_tuple_of
from deedseen.solving import solve

_MOST_PAST = 200

# How many things each deed has behind its word.
_DEEDS = {"arrow": 2, "unarrow": 2, "cause": 1, "uncause": 1, "hide": 1, "ask": 4, "undo": 0}


def begun(drawing):
    """The state of a drawing in which nothing was done."""
    need_drawing(drawing)
    return drawing, ()


def need_state(state):
    """Return a state, refuse what is none."""
    if not is_tuple_of(state, 2):
        raise BadDeed(())
    drawing, past = state
    need_drawing(drawing)
    if type(past) is not tuple or len(past) > _MOST_PAST:
        raise BadDeed((1,))
    for at, ahead in enumerate(past):
        if not is_drawing(ahead):
            raise BadDeed((1, at))
    return state


def session_step(state, deed):
    """The state behind a deed, and its answer."""
    need_state(state)
    return _step(state, deed)


def _step(state, deed):
    if type(deed) is not tuple or not deed or type(deed[0]) is not str:
        raise BadDeed(())
    word = deed[0]
    if word not in _DEEDS or len(deed) != 1 + _DEEDS[word]:
        raise BadDeed(())
    drawing, past = state
    if word == "ask":
        return state, solve((drawing,) + deed[1:])
    if word == "undo":
        if not past:
            raise NoRow()
        return (past[-1], past[:-1]), None
    mended = _mended(drawing, deed)
    if len(past) == _MOST_PAST:
        raise TooGreat(_MOST_PAST)
    return (mended, past + (drawing,)), None


def _mended(drawing, deed):
    """The drawing behind a deed that changes it."""
    word = deed[0]
    if word == "hide":
        return hidden(drawing, deed[1])
    count, arrows, causes = drawing
    if word in ("arrow", "unarrow"):
        return count, _arrows_mended(drawing, word, deed[1:]), causes
    return count, arrows, _causes_mended(drawing, word, deed[1])


def _arrows_mended(drawing, word, arrow):
    count, arrows, _ = drawing
    # An arrow goes to a later thing: it is a lot of two.
    if not is_lot(count, arrow) or (arrow in arrows) == (word == "arrow"):
        raise BadParameter(arrow)
    return _changed(arrows, arrow)


def _causes_mended(drawing, word, cause):
    count, _, causes = drawing
    if not is_lot(count, cause) or len(cause) < 2 or (cause in causes) == (word == "cause"):
        raise BadParameter(cause)
    if word == "cause" and len(causes) == MOST_CAUSES:
        raise TooGreat(MOST_CAUSES)
    return _changed(causes, cause)


def _changed(some, one):
    """An ascending tuple with one thing more, or, where it has it, less."""
    if one in some:
        return tuple([other for other in some if other != one])
    return tuple(sorted(some + (one,)))


def played(drawing, deeds):
    """The state behind all of some deeds, and their answers."""
    state = begun(drawing)
    if type(deeds) is not tuple:
        raise BadParameter(deeds)
    answers = []
    for deed in deeds:
        state, told = _step(state, deed)
        answers.append(told)
    return state, tuple(answers)
