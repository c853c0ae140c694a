"""Drawings without a thing: what is left of arrows and causes if it is watched no more."""

from deedseen.drawings import MOST_CAUSES, need_drawing, need_thing
from deedseen.errors import BadLot, BadParameter, TooGreat
from deedseen.lots import all_things, children_in, is_integer, is_lot, lot_without, parents_in, together

_GREATEST = 9


def hidden(drawing, thing):
    """The drawing in which a thing is watched no more."""
    need_drawing(drawing)
    if drawing[0] < 2:
        raise BadParameter(thing)
    need_thing(drawing, thing)
    return hidden_in(drawing, thing)


def hidden_in(drawing, thing):
    """The same as hidden, of parameters that are known to be right."""
    causes = sorted({image for image in images_of(drawing, thing) if len(image) > 1})
    if len(causes) > MOST_CAUSES:
        raise TooGreat(MOST_CAUSES)
    return drawing[0] - 1, _arrows_left(drawing, thing), tuple(causes)


def _arrows_left(drawing, thing):
    count, arrows, _ = drawing
    every = all_things(count)
    through = [(parent, child) for parent in parents_in(arrows, every, thing)
               for child in children_in(arrows, every, thing)]
    beside = [arrow for arrow in arrows if thing not in arrow]
    return tuple(sorted({shown_in(thing, arrow) for arrow in through + beside}))


def images_of(drawing, thing):
    """For each cause, and last for the new one, the things that it has, in new numbers, when a thing is hidden."""
    count, arrows, causes = drawing
    children = children_in(arrows, all_things(count), thing)
    images = [together(cause, children) if thing in cause else cause for cause in causes] + [children]
    return [shown_in(thing, lot_without(image, (thing,))) for image in images]


def shown(thing, lot):
    """The numbers that a lot of other things has when a thing is hidden."""
    if not is_integer(thing, 0, _GREATEST):
        raise BadParameter(thing)
    if not is_lot(_GREATEST + 1, lot) or thing in lot:
        raise BadLot(lot)
    return shown_in(thing, lot)


def shown_in(thing, lot):
    """The same as shown, of parameters that are known to be right."""
    return tuple([other - 1 if other > thing else other for other in lot])
