"""Answers of questions in a world, by their plain meaning."""

from deedseen.lots import all_without, together
from deedseen.questions import need_question, things_in
from deedseen.sums import numbers_of, shares, summed
from deedseen.worlds import factor_in, need_world


def answer(question, world):
    """The chance of each row of values of a question's things."""
    need_question(question)
    need_world(question[0], world)
    return answer_in(question, world)


def answer_in(question, world):
    """The same as answer, of parameters that are known to be right."""
    drawing, _, by_hand, seen, _ = question
    things = things_in(question)
    chances = factor_in(drawing, world, all_without(drawing[0], by_hand))
    some = summed(numbers_of(world[0], chances), things)
    return shares(world[0], things, some, summed(some, together(by_hand, seen)))


def watched(question, world):
    """The chance of each row while the tried things are set by hand."""
    need_question(question)
    need_world(question[0], world)
    return watched_in(question, world)


def watched_in(question, world):
    """The same as watched, of parameters that are known to be right."""
    drawing, tried, _, _, _ = question
    return factor_in(drawing, world, all_without(drawing[0], tried))
