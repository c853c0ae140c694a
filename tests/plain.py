"""Plain ways to the same ends as the program's: slow, by the document's words."""

from fractions import Fraction
from itertools import product

from tests.helping import all_arrows, lots, some_drawing, some_of, subsets


def ranges(sizes):
    return product(*[range(size) for size in sizes])


def plain_tables(drawing, world):
    """For each thing (PARENTS, CAUSES, CHANCES): CHANCES from the values of both, parents first, to chances."""
    count, arrows, causes = drawing
    told = []
    for thing in range(count):
        parents = [start for start, end in arrows if end == thing]
        numbers = [at for at, cause in enumerate(causes) if thing in cause]
        sizes = [world[0][parent] for parent in parents] + [len(world[1][number]) for number in numbers]
        chances = {keys: [Fraction(weight, sum(weights)) for weight in weights]
                   for keys, weights in zip(ranges(sizes), world[2][thing], strict=True)}
        told.append((parents, numbers, chances))
    return told


def plain_factor(drawing, world, lot):
    """All rows of the causes' values, one by one."""
    tables = plain_tables(drawing, world)
    hidden = []
    for hidden_row in ranges([len(weights) for weights in world[1]]):
        chance = Fraction(1)
        for weights, value in zip(world[1], hidden_row):
            chance *= Fraction(weights[value], sum(weights))
        hidden.append((hidden_row, chance))
    told = []
    for row in ranges(world[0]):
        together = Fraction(0)
        for hidden_row, chance in hidden:
            for thing in lot:
                parents, numbers, chances = tables[thing]
                keys = [row[parent] for parent in parents] + [hidden_row[number] for number in numbers]
                chance *= chances[tuple(keys)][row[thing]]
                if not chance:
                    break
            together += chance
        told.append(together)
    return told


def plain_sums(sizes, numbers, things):
    """From each row of values of some things to the sum over all rows with these."""
    told = {}
    for row, number in zip(ranges(sizes), numbers, strict=True):
        key = tuple(row[thing] for thing in things)
        told[key] = told.get(key, Fraction(0)) + number
    return told


def plain_watched(question, world):
    (count, _, _), tried, _, _, _ = question
    return plain_factor(question[0], world, [thing for thing in range(count) if thing not in tried])


def plain_answer(question, world):
    """From each row of values of the question's things to (ABOVE, BELOW), sums of the factor of all but SET."""
    drawing, _, by_hand, seen, asked = question
    told = plain_factor(drawing, world, [thing for thing in range(drawing[0]) if thing not in by_hand])
    things = sorted(by_hand + seen + asked)
    given = sorted(by_hand + seen)
    some, whole = plain_sums(world[0], told, things), plain_sums(world[0], told, given)
    return {row: (some[row], whole[tuple(value for thing, value in zip(things, row) if thing in given)])
            for row in ranges([world[0][thing] for thing in things])}


def all_questions(drawing):
    """Each thing is of SET, of SEEN, of ASKED or of none, and some of SET are TRIED."""
    for places in product(range(4), repeat=drawing[0]):
        by_hand, seen, asked = (tuple(at for at, place in enumerate(places) if place == told) for told in (1, 2, 3))
        if asked:
            for tried in subsets(by_hand):
                yield drawing, tried, by_hand, seen, asked


def some_lots(chooser, count):
    """TRIED, SET, SEEN and ASKED of some question of so many things."""
    places = [chooser.randrange(4) for _ in range(count)]
    places[chooser.randrange(count)] = 3
    by_hand, seen, asked = (tuple(at for at, place in enumerate(places) if place == told) for told in (1, 2, 3))
    return some_of(chooser, by_hand), by_hand, seen, asked


def some_question(chooser, count, most_causes=6):
    count, arrows, causes = some_drawing(chooser, count)
    return ((count, arrows, causes[:most_causes]),) + some_lots(chooser, count)


def plain_goal(question, moved):
    (_, arrows, _), _, by_hand, seen, asked = question
    shut = set(by_hand) | set(moved)
    found = set(asked) | (set(seen) - set(moved))
    while True:
        more = {start for start, end in arrows if end in found and start not in shut}
        if more <= found:
            return tuple(sorted(found))
        found |= more


def plain_rooms(causes, lot):
    """The rooms of a lot: each lot within it that no cause binds to the rest, and that falls in no two such."""
    left, told = set(lot), []
    while left:
        room = {min(left)}
        while True:
            more = {thing for cause in causes if room & set(cause) for thing in cause if thing in left}
            if more <= room:
                break
            room |= more
        told.append(tuple(sorted(room)))
        left -= room
    return sorted(told)


def plain_leads(arrows, lot, start, goal):
    """Whether a thing leads to one of the goal's within a lot."""
    return start in goal or any(plain_leads(arrows, lot, end, goal) for begin, end in arrows
                                if begin == start and end in lot)


def plain_may_move(question, moved, thing):
    """All ways out of a thing, step by step, whether something is on them twice or not.

    Known as "Bayes ball": a state is a thing and whether the way came into it by an arrowhead.
    """
    (count, arrows, causes), _, by_hand, seen, asked = question
    over = set(by_hand) | set(moved)
    known = (set(by_hand) | set(seen)) - {thing}
    links = []
    for start, end in arrows:
        if end not in over and start != thing:
            links += [(start, end, False, True), (end, start, True, False)]
    for cause in causes:
        links += [(one, other, True, True) for one in cause for other in cause
                  if one != other and one not in over and other not in over]
    upward = set(known)
    for start, end in sorted(arrows, reverse=True):
        if end in upward and end not in over and start != thing:
            upward.add(start)
    # A link (FROM, TO, HEAD AT FROM, HEAD AT TO); the first thing lets go out any way.
    found = {(other, head) for one, other, _, head in links if one == thing}
    while True:
        more = set()
        for at, came in found:
            for one, other, leaves, head in links:
                if one == at and (at in upward if came and leaves else at not in known):
                    more.add((other, head))
        if more <= found:
            return not any(at in asked for at, _ in found)
        found |= more


def all_moves(question, moved=()):
    """All MOVED: each in turn may be moved."""
    told = [moved]
    for thing in question[3]:
        if thing not in moved and plain_may_move(question, moved, thing):
            told += all_moves(question, moved + (thing,))
    return told


def plain_is_great(question, great, small):
    (_, arrows, causes), tried, _, _, _ = question
    return (set(small) < set(great) and not set(great) & set(tried) and plain_rooms(causes, great) == [great]
            and all(plain_leads(arrows, great, thing, small) for thing in great))


def is_whole(question, moved):
    """Whether no other thing may be moved."""
    return not any(plain_may_move(question, moved, thing) for thing in question[3] if thing not in moved)


def all_hedges(question):
    """All hedges of a question: all lots in the place of GREAT."""
    count, _, causes = question[0]
    return [(moved, great, small) for moved in all_moves(question) if is_whole(question, moved)
            for small in plain_rooms(causes, plain_goal(question, moved))
            for great in lots(count) if plain_is_great(question, great, small)]


def is_set_of(value, things):
    """Whether a value is an ascending tuple of unlike integers, at least one, all of them of some things."""
    if type(value) is not tuple or not value or any(type(thing) is not int for thing in value):
        return False
    return value == tuple(sorted(set(value))) and set(value) <= set(things)


def plain_lot(question, ahead, step):
    """The lot of a step behind steps with some lots, None if it is not right."""
    (count, arrows, causes), tried, _, _, _ = question
    if type(step) is not tuple or not step or type(step[0]) is not str:
        return None
    if step[0] == "watched":
        return None if step[1:] else tuple(thing for thing in range(count) if thing not in tried)
    if step[0] == "join":
        if len(step) != 2 or not is_set_of(step[1], range(len(ahead))):
            return None
        things = [(place, thing) for place in step[1] for thing in ahead[place]]
        for one, (place, thing) in enumerate(things):
            for other_place, other in things[one + 1:]:
                bound = any(thing in cause and other in cause for cause in causes)
                if place != other_place and (thing == other or bound):
                    return None
        return tuple(sorted(thing for _, thing in things))
    if step[0] not in ("sum", "part") or len(step) != 3 or type(step[1]) is not int or step[1] not in range(len(ahead)):
        return None
    whole = ahead[step[1]]
    if not is_set_of(step[2], whole):
        return None
    if step[0] == "sum":
        right = all(start in step[2] for start, end in arrows if end in step[2] and start in whole)
    else:
        unions = [sorted(thing for room in some for thing in room) for some in subsets(plain_rooms(causes, whole))]
        right = list(step[2]) in unions
    return step[2] if right else None


def plain_lots(question, steps):
    """The lots of the steps ahead of the first wrong one."""
    told = []
    for step in steps:
        lot = plain_lot(question, told, step)
        if lot is None:
            break
        told.append(lot)
    return tuple(told)


def plain_is_paper(question, paper):
    moved, steps = paper
    told = plain_lots(question, steps)
    if not steps or len(steps) > 400 or len(told) < len(steps) or told[-1] != plain_goal(question, moved):
        return False
    return all(plain_may_move(question, moved[:at], thing) for at, thing in enumerate(moved))


def some_step(chooser, question, told):
    """A right step behind steps with some lots, of any form that there is."""
    (_, arrows, causes), _, _, _, _ = question
    word = chooser.choice(["watched", "sum", "part", "part", "join"]) if told else "watched"
    if word == "watched":
        return ("watched",)
    if word == "join":
        places = []
        for place in chooser.sample(range(len(told)), len(told)):
            if plain_lot(question, told, ("join", tuple(sorted(places + [place])))) and chooser.random() < 0.7:
                places.append(place)
        return ("join", tuple(sorted(places or [0])))
    place = chooser.randrange(len(told))
    whole = told[place]
    if word == "sum":
        ends = some_of(chooser, whole, chooser.randint(1, len(whole)))
        return word, place, tuple(thing for thing in whole if plain_leads(arrows, whole, thing, ends))
    some = some_of(chooser, plain_rooms(causes, whole))
    return word, place, tuple(sorted(thing for room in some for thing in room)) or plain_rooms(causes, whole)[0]


def some_steps(chooser, question, many):
    steps = ()
    for _ in range(many):
        steps += (some_step(chooser, question, plain_lots(question, steps)),)
    return steps


def plain_paper(question, moved):
    """A paper with just these moves, found by trying all that sums and single rooms lead to; None without one."""
    (_, arrows, causes), _, _, _, _ = question
    steps = [("watched",)]
    places = {plain_lots(question, steps)[0]: 0}
    for place, step in enumerate(steps):
        whole = plain_lots(question, steps)[place]
        more = [("part", place, room) for room in plain_rooms(causes, whole)]
        more += [("sum", place, lot) for lot in subsets(whole) if plain_lot(question, (whole,), ("sum", 0, lot))]
        for told in more:
            if told[2] not in places:
                places[told[2]] = len(steps)
                steps.append(told)
    rooms = plain_rooms(causes, plain_goal(question, moved))
    if not all(room in places for room in rooms):
        return None
    return moved, tuple(steps) + (("join", tuple(sorted(places[room] for room in rooms))),)


def some_hedged(chooser, count, seen=None):
    """A drawn question that has a hedge, and its hedges; with something seen, nothing, or either."""
    while True:
        arrows = tuple(arrow for arrow in all_arrows(count) if chooser.random() < 0.6)
        sizes = [min(count, chooser.choice([2, 2, 3])) for _ in range(count - 1)]
        causes = tuple(sorted({some_of(chooser, range(count), size) for size in sizes}))
        question = ((count, arrows, causes),) + some_lots(chooser, count)
        if seen is None or bool(question[3]) is seen:
            hedges = all_hedges(question)
            if hedges:
                return question, hedges


class PlainNought(Exception):
    """A division by 0, in a row."""


def plain_near(arrows, lot):
    return set(lot) | {start for start, end in arrows if end in lot}


def plain_numbers(question, steps, table):
    """For each step a dict from rows to fractions, by the words at "Steps"; the lots are known to be right."""
    (count, arrows, _), _, _, _, _ = question
    sizes, chances = table
    lots_told = plain_lots(question, steps)
    rows = list(ranges(sizes))
    told = []

    def summed_at(numbers, row, things):
        """The sum over all values of some things, the others being as in the row."""
        total = Fraction(0)
        for values in ranges([sizes[thing] for thing in things]):
            there = list(row)
            for thing, value in zip(things, values):
                there[thing] = value
            total += numbers[tuple(there)]
        return total

    for step, lot in zip(steps, lots_told):
        near = plain_near(arrows, lot)
        numbers = {}
        for whole_row in rows:
            row = tuple(value if thing in near else 0 for thing, value in enumerate(whole_row))
            if step[0] == "watched":
                numbers[whole_row] = Fraction(*chances[rows.index(row)]) if row != whole_row else \
                    Fraction(*chances[len(numbers)])
            elif step[0] == "sum":
                others = [thing for thing in lots_told[step[1]] if thing not in lot]
                numbers[whole_row] = summed_at(told[step[1]], row, others)
            elif step[0] == "part":
                number, things = Fraction(1), lots_told[step[1]]
                for at, thing in enumerate(things):
                    if thing in lot:
                        below = summed_at(told[step[1]], row, things[at:]) if at else Fraction(1)
                        if below == 0:
                            raise PlainNought(row)
                        number *= summed_at(told[step[1]], row, things[at + 1:]) / below
                numbers[whole_row] = number
            else:
                number = Fraction(1)
                for place in step[1]:
                    number *= told[place][row]
                numbers[whole_row] = number
        told.append(numbers)
    return told


def plain_by_paper(question, paper, table):
    """The answer by a paper: its last step's numbers, summed over what is neither seen nor asked, and divided."""
    _, _, by_hand, seen, asked = question
    moved, steps = paper
    sizes = table[0]
    last = plain_numbers(question, steps, table)[-1]
    goal = plain_goal(question, moved)
    things = sorted(by_hand + seen + asked)

    def number(row, summed):
        total = Fraction(0)
        for values in ranges([sizes[thing] for thing in summed]):
            there = {**row, **dict(zip(summed, values))}
            total += last[tuple(there.get(thing, 0) for thing in range(len(sizes)))]
        return total

    told = []
    for values in ranges([sizes[thing] for thing in things]):
        row = dict(zip(things, values))
        some = [thing for thing in goal if thing not in seen + asked]
        below = number(row, sorted(some + list(asked)))
        if below == 0:
            raise PlainNought(values)
        told.append(number(row, some) / below)
    return told


def some_table(chooser, question, sizes, least=0):
    """A table of a question that need not be any world's, many of its chances 0 if the least may be."""
    tried = question[1]
    rows = list(ranges(sizes))
    weights = [max(least, chooser.choice([0, 0, 1, 1, 2, 3])) for _ in rows]
    wholes = {}
    for row, weight in zip(rows, weights):
        key = tuple(row[thing] for thing in tried)
        wholes[key] = wholes.get(key, 0) + weight
    if min(wholes.values()) == 0:
        return some_table(chooser, question, sizes, least)
    told = [Fraction(weight, wholes[tuple(row[thing] for thing in tried)]) for row, weight in zip(rows, weights)]
    return tuple(sizes), tuple((chance.numerator, chance.denominator) for chance in told)


def plain_solve(question):
    """("not", HEDGE), all lots being asked for GREAT, or ("told", MOVED)."""
    count, _, causes = question[0]
    moved = ()
    while True:
        let = [thing for thing in question[3] if thing not in moved and plain_may_move(question, moved, thing)]
        if not let:
            break
        moved += (min(let),)
    for small in plain_rooms(causes, plain_goal(question, moved)):
        greats = [great for great in lots(count) if plain_is_great(question, great, small)]
        if greats:
            return "not", (moved, tuple(sorted({thing for great in greats for thing in great})), small)
    return "told", moved
