"""Plain ways for what is built on roads and solving: least roads, the rules, what a question asks beside."""

from functools import lru_cache

from tests.helping import all_drawings
from tests.plain import all_questions, plain_answer, plain_solve
from tests.test_roads import all_roads, plain_open, rank

solved = lru_cache(None)(plain_solve)


def small_questions():
    """ALL questions of ALL drawings of one, two and three things."""
    for count in (1, 2, 3):
        for drawing in all_drawings(count):
            yield from all_questions(drawing)


def plain_told(question):
    return solved(question)[0] == "told"


def plain_least_road(drawing, over, under, one, others, seen):
    """The least open road of all that there are, listed one by one; None without one."""
    let = [road for road in all_roads(drawing, over, under, one, others)
           if plain_open(drawing, over, under, seen, road)]
    return min(let, key=rank, default=None)


def lot_of(*lots):
    return tuple(sorted(thing for lot in lots for thing in lot))


def less(lot, thing):
    return tuple(other for other in lot if other != thing)


def further_things(question):
    """The things that are no things of a question."""
    taken = lot_of(*question[2:])
    return tuple(thing for thing in range(question[0][0]) if thing not in taken)


def plain_beside(question, rule, thing):
    drawing, tried, by_hand, seen, asked = question
    if rule == "forget":
        return drawing, tried, by_hand, less(seen, thing), asked
    if rule == "set":
        return drawing, tried, lot_of(by_hand, (thing,)), less(seen, thing), asked
    return drawing, less(tried, thing), less(by_hand, thing), seen, asked


def leads_down(drawing, shut, start, ends):
    """Whether a thing leads to one of some ends through things outside of a shut lot."""
    return start in ends or any(leads_down(drawing, shut, end, ends) for begin, end in drawing[1]
                                if begin == start and end not in shut)


def plain_rule(question, rule, thing):
    """What a rule tells, by the words."""
    drawing, _, by_hand, seen, asked = question
    known = less(lot_of(by_hand, seen), thing)
    over, under = by_hand, ()
    if rule == "set":
        under = (thing,)
    if rule == "undo" and leads_down(drawing, less(by_hand, thing), thing, seen):
        over = less(by_hand, thing)
    road = plain_least_road(drawing, over, under, thing, asked, known)
    return road is None, road


def rules_of(question):
    """All rules with all things that they take."""
    _, _, by_hand, seen, _ = question
    return [(rule, thing) for rule in ("forget", "set") for thing in seen] + [("undo", thing) for thing in by_hand]


def unlike_rows(question, rule, thing, world):
    """The rows in which the two answers that a rule compares are unlike, by plain sums."""
    other = plain_beside(question, rule, thing)
    things, others = lot_of(*question[2:]), lot_of(*other[2:])
    beside = plain_answer(other, world)
    found = []
    for row, (above, below) in plain_answer(question, world).items():
        there = tuple(value for at, value in zip(things, row) if at in others)
        if above / below != beside[there][0] / beside[there][1]:
            found.append(row)
    return found
