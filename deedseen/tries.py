"""What to try by hand: the cheapest things by which, tried, a question is told."""

from deedseen.checking import is_hedge_of, is_paper_of
from deedseen.drawings import need_lot
from deedseen.errors import BadParameter
from deedseen.lots import is_lot_of, is_tuple_of, lies_in, meets
from deedseen.prices import lots_ahead, lots_by_price, need_prices
from deedseen.questions import need_question
from deedseen.solving import solve


def with_tried(question, tried):
    """The question with another lot in the place of TRIED."""
    need_question(question)
    need_lot(question[0], tried)
    if not lies_in(tried, question[2]):
        raise BadParameter(tried)
    return _with_tried(question, tried)


def _with_tried(question, tried):
    return question[:1] + (tried,) + question[2:]


def told_by(question, tried):
    """("told", PAPER) or ("not", HEDGE) for the question with another lot tried."""
    return solve(with_tried(question, tried))


def cheapest_try(question, prices):
    """The cheapest lot by which, tried, the question is told, a paper, and hedges that no cheaper lot meets."""
    need_question(question)
    need_prices(question[2], prices)
    hedges = []
    # With all of SET tried the question is told: the loop ends by a return.
    for tried in lots_by_price(question[2], prices):
        if not _is_ruled_out(tried, hedges):
            word, shown = solve(_with_tried(question, tried))
            if word == "told":
                return tried, shown, tuple(hedges)
            hedges.append(shown)


def _is_ruled_out(tried, hedges):
    """Whether a lot has nothing of the GREAT of some hedge."""
    return any(not meets(tried, great) for _, great, _ in hedges)


def is_cheapest_try(question, prices, value):
    """Whether a value is (TRIED, PAPER, HEDGES) as cheapest_try tells them."""
    need_question(question)
    need_prices(question[2], prices)
    if not is_tuple_of(value, 3):
        return False
    tried, paper, hedges = value
    if not is_lot_of(question[2], tried) or type(hedges) is not tuple:
        return False
    if not is_paper_of(_with_tried(question, tried), paper):
        return False
    untried = _with_tried(question, ())
    if not all(is_hedge_of(untried, hedge) for hedge in hedges):
        return False
    return all(_is_ruled_out(lot, hedges) for lot in lots_ahead(question[2], prices, tried))
