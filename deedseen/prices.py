"""Lots by their prices, for the other files."""

from deedseen.errors import BadParameter
from deedseen.lots import is_integer, is_tuple_of, lots_within

_MOST_PRICE = 10 ** 6


def need_prices(lot, value):
    """Return prices, one for each thing of a lot in its order, refuse what is none."""
    if not is_tuple_of(value, len(lot)) or not all(is_integer(price, 0, _MOST_PRICE) for price in value):
        raise BadParameter(value)
    return value


def lots_by_price(lot, prices):
    """All lots within a lot, the cheapest ahead, of equally dear ones the least as Python compares."""
    return [some for _, some in sorted([_rank(lot, prices, some) for some in lots_within(lot)])]


def _rank(lot, prices, some):
    return sum([price for thing, price in zip(lot, prices) if thing in some]), some


def lots_ahead(lot, prices, some):
    """The lots within a lot that are cheaper than one of them, or as dear and less."""
    ordered = lots_by_price(lot, prices)
    return ordered[:ordered.index(some)]
