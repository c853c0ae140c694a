"""Three rules: the question that is asked beside another one, and when both answers are the same."""

from deedseen.checking import road_back
from deedseen.errors import BadParameter
from deedseen.lots import goal_in, lot_without, together
from deedseen.questions import need_question, need_thing_of, set_instead
from deedseen.roads import least_road

# For each rule the place in a question of the lot that it takes a thing of.
_PLACES = {"forget": 3, "set": 3, "undo": 2}


def need_rule(question, rule, thing):
    """Refuse what is no question, no rule, or no thing that the rule takes."""
    need_question(question)
    if type(rule) is not str or rule not in _PLACES:
        raise BadParameter(rule)
    need_thing_of(question[_PLACES[rule]], thing)


def beside(question, rule, thing):
    """The question that is asked beside a question, by a rule for one thing."""
    need_rule(question, rule, thing)
    return beside_in(question, rule, thing)


def beside_in(question, rule, thing):
    """The same as beside, of parameters that are known to be right."""
    drawing, tried, by_hand, seen, asked = question
    if rule == "forget":
        return drawing, tried, by_hand, lot_without(seen, (thing,)), asked
    if rule == "set":
        return set_instead(question, (thing,))
    return drawing, lot_without(tried, (thing,)), lot_without(by_hand, (thing,)), seen, asked


def forget(question, thing):
    """Whether a thing of SEEN tells nothing beside the rest, and the road by which it does."""
    need_rule(question, "forget", thing)
    drawing, _, by_hand, _, asked = question
    return _told(least_road(drawing, by_hand, (), thing, asked, known_beside(question, thing)))


def set_for_seen(question, thing):
    """Whether a thing of SEEN may as well be set, and the road by which it may not."""
    need_rule(question, "set", thing)
    return _told(road_back(question, (), thing))


def undo(question, thing):
    """Whether a thing of SET may as well be let alone, and the road by which it may not."""
    need_rule(question, "undo", thing)
    drawing, _, by_hand, _, asked = question
    over = lot_without(by_hand, (thing,)) if leads_to_seen(question, thing) else by_hand
    return _told(least_road(drawing, over, (), thing, asked, known_beside(question, thing)))


def _told(road):
    return road is None, road


def known_beside(question, thing):
    """What is set or seen beside a thing."""
    return lot_without(together(question[2], question[3]), (thing,))


def leads_to_seen(question, thing):
    """Whether a thing of SET leads to one of SEEN through things outside of the rest of SET."""
    drawing, _, by_hand, seen, _ = question
    return thing in goal_in(drawing, lot_without(by_hand, (thing,)), seen)
