"""What must be denied: arrows and causes without which a question is told."""

from deedseen.checking import is_hedge_of, is_paper_of
from deedseen.drawings import need_drawing
from deedseen.errors import BadParameter
from deedseen.lots import is_integer, is_tuple_of
from deedseen.questions import need_question
from deedseen.solving import solve


def items_of(drawing):
    """The tuple of all items of a drawing: its arrows, then its causes."""
    need_drawing(drawing)
    return _items_in(drawing)


def _items_in(drawing):
    _, arrows, causes = drawing
    arrow_items = [("arrow", number) for number in range(len(arrows))]
    return tuple(arrow_items + [("cause", number) for number in range(len(causes))])


def without(question, denied):
    """The question in the drawing without some items."""
    need_question(question)
    if not _are_items(question[0], denied):
        raise BadParameter(denied)
    return _without(question, denied)


def _without(question, denied):
    count, arrows, causes = question[0]
    arrows_left = [arrow for number, arrow in enumerate(arrows) if ("arrow", number) not in denied]
    causes_left = [cause for number, cause in enumerate(causes) if ("cause", number) not in denied]
    return ((count, tuple(arrows_left), tuple(causes_left)),) + question[1:]


def _are_items(drawing, value):
    """Whether a value is a tuple of unlike items of a drawing, in any order."""
    if type(value) is not tuple or not all(_is_item(drawing, item) for item in value):
        return False
    return len(set(value)) == len(value)


def _is_item(drawing, value):
    if not is_tuple_of(value, 2) or type(value[0]) is not str:
        return False
    word, number = value
    if word == "arrow":
        return is_integer(number, 0, len(drawing[1]) - 1)
    return word == "cause" and is_integer(number, 0, len(drawing[2]) - 1)


def _need_order(drawing, order):
    if not _are_items(drawing, order) or len(order) != len(_items_in(drawing)):
        raise BadParameter(order)


def least_denials(question, order):
    """The items that are denied if each one is let with which, in an order, the question stays told."""
    need_question(question)
    _need_order(question[0], order)
    denied, hedges = (), ()
    for at, item in enumerate(order):
        # What is still to come is denied so long.
        word, shown = solve(_without(question, denied + order[at + 1:]))
        if word == "not":
            denied, hedges = denied + (item,), hedges + (shown,)
    return denied, solve(_without(question, denied))[1], hedges


def is_denials(question, order, value):
    """Whether a value is (DENIED, PAPER, HEDGES) as least_denials tells them."""
    need_question(question)
    _need_order(question[0], order)
    if not is_tuple_of(value, 3):
        return False
    denied, paper, hedges = value
    if not _are_items(question[0], denied) or denied != tuple([item for item in order if item in denied]):
        return False
    if not is_paper_of(_without(question, denied), paper) or not is_tuple_of(hedges, len(denied)):
        return False
    return all(_is_hedge_at(question, order, denied, at, hedge) for at, hedge in enumerate(hedges))


def _is_hedge_at(question, order, denied, at, hedge):
    """Whether a value is a hedge of the question with a denied item and all that is let ahead of it."""
    item = denied[at]
    left = _without(question, denied[:at] + order[order.index(item) + 1:])
    return is_hedge_of(left, hedge)
