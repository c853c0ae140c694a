"""Worlds in which a rule does not hold: the answers of two questions are unlike there."""

from deedseen.answers import answer_in
from deedseen.bits import next_things, road_bits, road_coins, way_bits, way_bits_from, world_of_bits
from deedseen.errors import NoRow
from deedseen.lots import all_things, is_tuple_of, lot_without
from deedseen.questions import things_in
from deedseen.roads import cut_drawing, least_road
from deedseen.rules import beside_in, known_beside, leads_to_seen, need_rule
from deedseen.sums import values_of
from deedseen.worlds import factor_in, is_row, is_world, rows_of


def apart(question, rule, thing):
    """A positive world, and a row in which the answers that a rule compares are unlike."""
    need_rule(question, rule, thing)
    if rule == "undo":
        world = _world_undone(question, thing)
    else:
        world = _world_of_cut(question, thing, question[2], (thing,) if rule == "set" else (), [])
    if world is None:
        raise NoRow()
    return world, _unlike_rows(question, beside_in(question, rule, thing), world)[0]


def _world_of_cut(question, thing, over, under, further):
    """The world that comes of the least open road from a thing to ASKED, with further bits; None without a road."""
    drawing, _, _, _, asked = question
    known = known_beside(question, thing)
    road = least_road(drawing, over, under, thing, asked, known)
    if road is None:
        return None
    count, arrows, _ = cut_drawing(drawing, over, under)
    bits = road_bits(road) + way_bits(road, next_things(count, arrows, known))
    return world_of_bits(drawing, bits + further, road_coins(road))


def _world_undone(question, thing):
    """A world in which it matters whether a thing of SET is set, None if there is none."""
    drawing, _, by_hand, seen, _ = question
    world = _world_of_cut(question, thing, by_hand, (), [])
    if world is not None or not leads_to_seen(question, thing):
        return world
    # Nothing goes out from the thing to ASKED. What comes into it, on its way to what
    # is seen, tells of ASKED, but not if the thing is set.
    over = lot_without(by_hand, (thing,))
    count, arrows, _ = cut_drawing(drawing, over, ())
    handed_down = way_bits_from(thing, next_things(count, arrows, seen))
    return _world_of_cut(question, thing, over, (thing,), handed_down)


def _unlike_rows(question, other, world):
    """The rows of values of a question's things in which its answer and that of another one are unlike.

    The things of the other one are some of the question's.
    """
    things, others = things_in(question), things_in(other)
    places = [at for at, thing in enumerate(things) if thing in others]
    chances = dict(zip(rows_of(values_of(world[0], others)), answer_in(other, world)))
    told = list(zip(rows_of(values_of(world[0], things)), answer_in(question, world)))
    return [row for row, chance in told if chance != chances[values_of(row, places)]]


def is_apart(question, rule, thing, value):
    """Whether a value is a positive world, and a row in which the answers that a rule compares are unlike."""
    need_rule(question, rule, thing)
    if not is_tuple_of(value, 2):
        return False
    world, row = value
    if not is_world(question[0], world) or not is_row(values_of(world[0], things_in(question)), row):
        return False
    chances = factor_in(question[0], world, all_things(question[0][0]))
    if any(chance[0] == 0 for chance in chances):
        return False
    return row in _unlike_rows(question, beside_in(question, rule, thing), world)
