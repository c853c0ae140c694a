"""Plain ways for drawings without things, arrows, causes, and for the questions in them."""

from tests.plain import plain_factor, plain_sums, ranges
from tests.plain_rules import further_things


class PlainTooGreat(Exception):
    """More than 20 causes."""


def plain_hidden(drawing, thing, most=20):
    """The drawing without a thing, by the words; its things in their old order."""
    count, arrows, causes = drawing
    others = [other for other in range(count) if other != thing]
    children = {other for other in others if (thing, other) in arrows}
    kept = []
    for one in range(len(others)):
        for other in range(one + 1, len(others)):
            start, end = others[one], others[other]
            if (start, end) in arrows or ((start, thing) in arrows and (thing, end) in arrows):
                kept.append((one, other))
    bound = [frozenset(cause) if thing not in cause else frozenset(cause) - {thing} | children for cause in causes]
    told = {tuple(sorted(others.index(other) for other in cause)) for cause in bound + [frozenset(children)]
            if len(cause) > 1}
    if len(told) > most:
        raise PlainTooGreat
    return count - 1, tuple(kept), tuple(sorted(told))


def plain_hidden_all(question, lot):
    """The question without the things of a lot, the last one first."""
    drawing, lots_told = question[0], question[1:]
    for thing in sorted(lot, reverse=True):
        drawing = plain_hidden(drawing, thing)
        lots_told = tuple(tuple(other - (other > thing) for other in some) for some in lots_told)
    return (drawing,) + lots_told


def plain_left(question, kept):
    """The question without all other things but some."""
    return plain_hidden_all(question, [thing for thing in further_things(question) if thing not in kept])


def plain_without(question, denied):
    count, arrows, causes = question[0]
    arrows = [arrow for at, arrow in enumerate(arrows) if ("arrow", at) not in denied]
    causes = [cause for at, cause in enumerate(causes) if ("cause", at) not in denied]
    return ((count, tuple(arrows), tuple(causes)),) + question[1:]


def same_without(drawing, world, left, less, thing):
    """Whether all factors of the others are the same in a world and in one of the drawing without a thing.

    The first lot of which they are not, in the old numbers; None if they are.
    """
    count = drawing[0]
    others = [other for other in range(count) if other != thing]
    if tuple(world[0][other] for other in others) != less[0]:
        return ()
    for code in range(2 ** len(others)):
        lot = [at for at in range(len(others)) if code >> at & 1]
        there = plain_factor(drawing, world, sorted([others[at] for at in lot] + [thing]))
        summed = plain_sums(world[0], there, others)
        if plain_factor(left, less, lot) != [summed[row] for row in ranges(less[0])]:
            return tuple(others[at] for at in lot)
    return None
