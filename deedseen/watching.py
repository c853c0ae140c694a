"""What must be watched: questions in drawings without some things, the cheapest things to be watched."""

from deedseen.checking import is_hedge_of, is_paper_of
from deedseen.drawings import need_lot
from deedseen.errors import BadParameter, NoRow
from deedseen.hiding import hidden_in, shown_in
from deedseen.lots import is_lot_of, is_tuple_of, lies_in, lot_without, lots_within, meets
from deedseen.prices import lots_ahead, lots_by_price, need_prices
from deedseen.questions import need_question, other_things, things_in
from deedseen.solving import is_told, solve


def hidden_all(question, lot):
    """The question in the drawing without the things of a lot, none of its own."""
    need_question(question)
    need_lot(question[0], lot)
    if meets(lot, things_in(question)):
        raise BadParameter(lot)
    left = question
    for thing in reversed(lot):
        left = _without_one(left, thing)
    return left


def _without_one(question, thing):
    return (hidden_in(question[0], thing),) + tuple([shown_in(thing, lot) for lot in question[1:]])


def _all_hidden(question):
    """For each lot of other things the question without them."""
    found = {(): question}
    for lot in lots_within(other_things(question)):
        if lot:
            # The last thing is hidden first, so the first one last.
            found[lot] = _without_one(found[lot[1:]], lot[0])
    return found


def cheapest_watch(question, prices):
    """The cheapest other things with which, watched, the question is told, a paper, and hedges for all cheaper ones."""
    need_question(question)
    others = other_things(question)
    need_prices(others, prices)
    left = _all_hidden(question)
    if not is_told(question):
        raise NoRow()
    denials = []
    # With all others watched the question is told: the loop ends by a return.
    for watched in lots_by_price(others, prices):
        if not _is_denied(watched, denials):
            word, shown = solve(left[lot_without(others, watched)])
            if word == "told":
                return watched, shown, tuple(denials)
            denials.append((watched, shown))


def _is_denied(watched, denials):
    """Whether a lot lies in one with which, watched, a hedge shows that the question is not told."""
    return any(lies_in(watched, less) for less, _ in denials)


def is_cheapest_watch(question, prices, value):
    """Whether a value is (LOT, PAPER, DENIALS) as cheapest_watch tells them."""
    need_question(question)
    others = other_things(question)
    need_prices(others, prices)
    left = _all_hidden(question)
    if not is_tuple_of(value, 3):
        return False
    watched, paper, denials = value
    if not is_lot_of(others, watched) or type(denials) is not tuple:
        return False
    if not is_paper_of(left[lot_without(others, watched)], paper):
        return False
    if not all(_is_denial(others, left, denial) for denial in denials):
        return False
    return all(_is_denied(lot, denials) for lot in lots_ahead(others, prices, watched))


def _is_denial(others, left, value):
    if not is_tuple_of(value, 2) or not is_lot_of(others, value[0]):
        return False
    return is_hedge_of(left[lot_without(others, value[0])], value[1])
