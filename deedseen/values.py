"""Steps and papers as formulas: their numbers for a table of chances."""

from deedseen.chances import reduced
from deedseen.checking import is_paper_of
from deedseen.errors import BadParameter, Nought
from deedseen.lots import all_things, lot_without, parents_in, together
from deedseen.questions import need_question, things_in
from deedseen.steps import lots_of, right_lots
from deedseen.sums import number_at, numbers_of, rows_at_nought, shares, summed, values_of
from deedseen.tables import need_table
from deedseen.worlds import rows_of


def step_factors(question, steps, table):
    """For each step a fraction for each row of values of all things."""
    lots = lots_of(question, steps)
    need_table(question, table)
    rows = rows_of(table[0])
    # Steps whose numbers go by the same things look them up at the same places.
    keys = {}
    told = []
    for near, numbers in _numbers_of_steps(question, steps, lots, table):
        if near not in keys:
            keys[near] = [values_of(row, near) for row in rows]
        told.append(tuple([numbers[key] for key in keys[near]]))
    return tuple(told)


def _numbers_of_steps(question, steps, lots, table):
    """The numbers of each step, for the values of the things that count there."""
    drawing = question[0]
    sizes = table[0]
    watched = numbers_of(sizes, table[1])
    found = []
    for step, lot in zip(steps, lots):
        near = _near(drawing, lot)
        if step[0] == "watched":
            found.append(_cut_to(watched, near))
        elif step[0] == "sum":
            kept = together(near, lots[step[1]])
            found.append(summed(_cut_to(found[step[1]], kept), near))
        elif step[0] == "part":
            found.append(_part(sizes, near, _beginnings(found[step[1]], lots[step[1]]), lot))
        else:
            found.append(_joined(sizes, near, [found[place] for place in step[1]]))
    return found


def _near(drawing, lot):
    """The things that count for the factor of a lot: it and the parents of its things."""
    every = all_things(drawing[0])
    near = lot
    for thing in lot:
        near = together(near, parents_in(drawing[1], every, thing))
    return near


def _cut_to(numbers, lot):
    """The numbers of the things that are of a lot, too, all others having the value 0."""
    things, table = numbers
    kept = [place for place, thing in enumerate(things) if thing in lot]
    left = [place for place, thing in enumerate(things) if thing not in lot]
    told = {values_of(key, kept): table[key] for key in table if not any(values_of(key, left))}
    return values_of(things, kept), told


def _beginnings(numbers, lot):
    """For each thing of a lot (THING, BELOW, ABOVE): the sums over all later ones without and with it.

    None stands for the sum ahead of the first one, which is 1 whatever the numbers.
    """
    told = []
    above = numbers
    for thing in reversed(lot):
        below = None if thing == lot[0] else summed(above, lot_without(above[0], (thing,)))
        told.append((thing, below, above))
        above = below
    return told[::-1]


def _part(sizes, near, beginnings, lot):
    asked = [(below, above) for thing, below, above in beginnings if thing in lot]
    return near, {values_of(row, near): _share(row, asked) for row in rows_at_nought(sizes, near)}


def _share(row, pairs):
    """The product, over pairs of sums, of the second one by the first one."""
    top, bottom = 1, 1
    for below, above in pairs:
        over, under = number_at(above, row)
        if below is not None:
            whole = number_at(below, row)
            if whole[0] == 0:
                raise Nought(row)
            over, under = over * whole[1], under * whole[0]
        top, bottom = top * over, bottom * under
    return reduced(top, bottom)


def _joined(sizes, near, parts):
    return near, {values_of(row, near): _product(row, parts) for row in rows_at_nought(sizes, near)}


def _product(row, parts):
    top, bottom = 1, 1
    for part in parts:
        above, below = number_at(part, row)
        top, bottom = top * above, bottom * below
    return reduced(top, bottom)


def by_paper(question, paper, table):
    """The answer by a paper, for each row of values of the question's things."""
    need_question(question)
    if not is_paper_of(question, paper):
        raise BadParameter(paper)
    need_table(question, table)
    steps = paper[1]
    last = _numbers_of_steps(question, steps, right_lots(question, steps), table)[-1]
    things = things_in(question)
    # What counts there, and is no thing of the question, is of GOAL: it is summed over.
    some = summed(last, tuple([thing for thing in last[0] if thing in things]))
    whole = summed(some, lot_without(some[0], question[4]))
    return shares(table[0], things, some, whole)


def lean(question, paper):
    """The paper without the steps that its last one doesn't need."""
    need_question(question)
    if not is_paper_of(question, paper):
        raise BadParameter(paper)
    moved, steps = paper
    places = {place: at for at, place in enumerate(_needed(steps))}
    return moved, tuple([_renumbered(steps[place], places) for place in places])


def _named(step):
    """The numbers of the steps that a step names."""
    if step[0] == "watched":
        return ()
    return step[1] if step[0] == "join" else (step[1],)


def _needed(steps):
    """The numbers of the steps that the last one needs, ascending."""
    needed = set()
    needed.add(len(steps) - 1)
    for place in reversed(range(len(steps))):
        if place in needed:
            for named in _named(steps[place]):
                needed.add(named)
    return sorted(needed)


def _renumbered(step, places):
    if step[0] == "watched":
        return step
    if step[0] == "join":
        return "join", tuple([places[place] for place in step[1]])
    return step[0], places[step[1]], step[2]
