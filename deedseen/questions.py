"""Questions: what is asked, of which things."""

from deedseen.drawings import need_drawing
from deedseen.errors import BadParameter, BadQuestion
from deedseen.lots import all_without, goal_in, is_lot, is_row_of, is_tuple_of, lies_in, lot_without, meets, together


def need_question(question):
    """Return a question, refuse what is none."""
    if not is_tuple_of(question, 5):
        raise BadQuestion(())
    drawing, tried, by_hand, seen, asked = question
    need_drawing(drawing)
    for place in (1, 2, 3, 4):
        if not is_lot(drawing[0], question[place]):
            raise BadQuestion((place,))
    if not asked:
        raise BadQuestion((4,))
    if not lies_in(tried, by_hand):
        raise BadQuestion((1,))
    if meets(seen, by_hand):
        raise BadQuestion((3,))
    if meets(asked, by_hand) or meets(asked, seen):
        raise BadQuestion((4,))
    return question


def things_of(question):
    """The SET of a question's things: what is set, seen or asked."""
    need_question(question)
    return things_in(question)


def things_in(question):
    """The same as things_of, of what is known to be a question."""
    return together(together(question[2], question[3]), question[4])


def other_things(question):
    """The lot of the things of the drawing that are no things of a question."""
    return all_without(question[0][0], things_in(question))


def goal(question, moved):
    """The lot of what leads, outside of all that is set, to what is seen or asked."""
    need_question(question)
    if not is_row_of(question[3], moved):
        raise BadParameter(moved)
    return goal_behind(question, moved)


def goal_behind(question, moved):
    """The same as goal, of a question and things of SEEN that are known to be right."""
    drawing, _, by_hand, seen, asked = question
    return goal_in(drawing, together(by_hand, moved), together(lot_without(seen, moved), asked))


def need_thing_of(lot, value):
    """Return a thing of a lot, refuse what is none."""
    if type(value) is not int or value not in lot:
        raise BadParameter(value)
    return value


def set_instead(question, moved):
    """The question with things of SEEN in SET in the place of SEEN."""
    drawing, tried, by_hand, seen, asked = question
    return drawing, tried, together(by_hand, moved), lot_without(seen, moved), asked
