"""[47], [48]: states, deeds, and what they answer."""

import random
import unittest

from deedseen.drawings import need_drawing
from deedseen.errors import BadDeed, BadDrawing, BadParameter, BadQuestion, NoRow, TooGreat
from deedseen.sessions import begun, need_state, played, session_step
from deedseen.solving import solve
from tests.helping import (BAD_DRAWING, EXAMPLE, HOSTILE, NO_INTEGERS, NO_TUPLES, all_arrows, all_causes,
                           assert_first_told, assert_plain, assert_refused, bad_parameter, refusal, some_drawing)
from tests.plain import some_lots
from tests.plain_hiding import PlainTooGreat, plain_hidden

HARDER = (3, ((0, 1), (0, 2), (1, 2)), ((0, 2),))
ASK = ("ask", (), (0,), (), (2,))
WORDS = {"arrow": 2, "unarrow": 2, "cause": 1, "uncause": 1, "hide": 1, "ask": 4, "undo": 0}
PAIRS = tuple(cause for cause in all_causes(8) if len(cause) == 2 and 0 not in cause)


def plain_mended(drawing, deed):
    """The drawing behind a deed that changes it, None if it is refused."""
    count, arrows, causes = drawing
    word, *told = deed
    if word in ("arrow", "unarrow"):
        arrow = tuple(told)
        if (word == "arrow") == (arrow in arrows) or arrow not in all_arrows(count):
            return None
        return count, tuple(sorted(set(arrows) ^ {arrow})), causes
    if word in ("cause", "uncause"):
        cause, = told
        many = len(causes) + (word == "cause")
        if (word == "cause") == (cause in causes) or cause not in all_causes(count) or many > 20:
            return None
        return count, arrows, tuple(sorted(set(causes) ^ {cause}))
    thing, = told
    if thing not in range(count) or count == 1:
        return None
    try:
        return plain_hidden(drawing, thing)
    except PlainTooGreat:
        return None


def some_deed(chooser, drawing):
    """A deed of any kind; that it may be refused does not matter."""
    count = drawing[0]
    word = chooser.choice(["arrow", "arrow", "unarrow", "cause", "cause", "uncause", "hide", "ask", "ask", "undo",
                           "undo"])
    if word in ("arrow", "unarrow"):
        return word, chooser.randrange(count), chooser.randrange(count + 1)
    if word in ("cause", "uncause"):
        return word, tuple(sorted(chooser.sample(range(count), min(count, chooser.choice([1, 2, 2, 3])))))
    if word == "hide":
        return word, chooser.randint(0, 2 * count)
    if word == "ask":
        return (word,) + some_lots(chooser, count)
    return (word,)


def past_of(many, drawing=(2, (), ())):
    return (drawing,) * many


class StateTest(unittest.TestCase):

    def test_begun(self):
        chooser = random.Random(47)
        for _ in range(40):
            drawing = some_drawing(chooser, chooser.randint(1, 10))
            told = begun(drawing=drawing)
            self.assertEqual(told, (drawing, ()))
            assert_plain(self, told)
            self.assertIs(need_state(told), told)
        assert_first_told(self, begun, {"drawing": EXAMPLE}, {"drawing": BAD_DRAWING})
        for drawing in NO_TUPLES + [()]:
            assert_refused(self, BadDrawing, {"place": ()}, begun, drawing)

    def test_states(self):
        for past in [(), (EXAMPLE,), (HARDER, EXAMPLE, (1, (), ())), past_of(199), past_of(200)]:
            state = (EXAMPLE, past)
            self.assertIs(need_state(state=state), state)

    def test_what_is_no_state(self):
        for function, further in [(need_state, ()), (session_step, (("undo",),)), (session_step, (HOSTILE,))]:
            for state in NO_TUPLES + [(), (EXAMPLE,), (EXAMPLE, (), ()), [EXAMPLE, ()], EXAMPLE]:
                assert_refused(self, BadDeed, {"place": ()}, function, state, *further)
            for past in NO_TUPLES + [[], [EXAMPLE], {}, past_of(201), past_of(300), (HOSTILE,) * 201]:
                assert_refused(self, BadDeed, {"place": (1,)}, function, (EXAMPLE, past), *further)
            for one in NO_TUPLES + [(), (EXAMPLE,), list(EXAMPLE), (0, (), ()), (3, ((1, 0),), ()), (3, (), ((0,),)),
                                    (True, (), ()), (3, (), ((0, 3),)), (HOSTILE, HOSTILE, HOSTILE)]:
                assert_refused(self, BadDeed, {"place": (1, 0)}, function, (EXAMPLE, (one,)), *further)
                assert_refused(self, BadDeed, {"place": (1, 2)}, function, (EXAMPLE, (HARDER, EXAMPLE, one, one)),
                               *further)
                assert_refused(self, BadDeed, {"place": (1, 199)}, function, (EXAMPLE, past_of(199) + (one,)), *further)

    def test_the_drawing_of_a_state(self):
        for function, further in [(need_state, ()), (session_step, (("undo",),))]:
            for drawing, place in [(None, ()), ((0, (), ()), (0,)), ((3, None, ()), (1,)), ((3, ((1, 0),), ()), (1, 0)),
                                   ((3, (), None), (2,)), ((3, (), ((0, 1), (0,))), (2, 1))]:
                assert_refused(self, BadDrawing, {"place": place}, function, (drawing, ()), *further)
                # Ahead of PAST.
                assert_refused(self, BadDrawing, {"place": place}, function, (drawing, None), *further)


class DeedsTest(unittest.TestCase):

    def compare(self, state, deed):
        """One step by a second, plain way; the state behind it."""
        drawing, past = state
        found = refusal(session_step, state, deed)
        if deed[0] == "ask":
            expected = state, solve((drawing,) + deed[1:])
        elif deed[0] == "undo":
            expected = ((past[-1], past[:-1]), None) if past else None
        else:
            mended = plain_mended(drawing, deed)
            expected = ((mended, past + (drawing,)), None) if mended and len(past) < 200 else None
        self.assertIs(found is None, expected is not None, (state, deed))
        if expected is None:
            return state
        told = session_step(state, deed)
        self.assertEqual(told, expected)
        assert_plain(self, told)
        self.assertIs(need_state(told[0]), told[0])
        if deed[0] not in ("ask", "undo"):
            # Its undo leaves the state as it was.
            self.assertEqual(session_step(told[0], ("undo",)), (state, None))
        return told[0]

    def test_drawn_rows_of_deeds(self):
        chooser = random.Random(48)
        for _ in range(150):
            drawing = some_drawing(chooser, chooser.choice([2, 3, 4, 5, 8]))
            state, done, answers = begun(drawing), [], []
            for _ in range(25):
                deed = some_deed(chooser, state[0])
                if refusal(session_step, state, deed) is None:
                    done.append(deed)
                    answers.append(session_step(state, deed)[1])
                state = self.compare(state, deed)
            self.assertEqual(played(drawing, tuple(done)), (state, tuple(answers)))
            self.assertEqual(played(drawing, tuple(done)), (state, tuple(answers)))
            # All taken back again.
            while state[1]:
                state = session_step(state, ("undo",))[0]
            self.assertEqual(state, begun(drawing))

    def test_asks_between(self):
        chooser = random.Random(481)
        for _ in range(80):
            drawing = some_drawing(chooser, 4)
            state = begun(drawing)
            for _ in range(8):
                deed = some_deed(chooser, state[0])
                if refusal(session_step, state, deed) is None:
                    state, _ = session_step(state, deed)
                asked = some_lots(chooser, state[0][0])
                told = session_step(state, ("ask",) + asked)
                # It tells what the question tells by itself, whatever was done before, and changes nothing.
                self.assertEqual(told, (state, solve((state[0],) + asked)))
                self.assertEqual(session_step(begun(state[0]), ("ask",) + asked)[1], told[1])

    def test_what_is_told_stays_told(self):
        chooser = random.Random(482)
        found = set()
        for _ in range(200):
            drawing = some_drawing(chooser, 4)
            ask = ("ask",) + some_lots(chooser, 4)
            state = begun(drawing)
            before = session_step(state, ask)[1][0]
            for deed in [("unarrow",) + arrow for arrow in drawing[1]] + [("uncause", cause) for cause in drawing[2]]:
                behind = session_step(session_step(state, deed)[0], ask)[1][0]
                found.add((before, behind))
        self.assertEqual(found, {("told", "told"), ("not", "told"), ("not", "not")})

    def test_each_deed(self):
        state = begun((4, ((0, 1),), ((0, 3),)))
        for deed, drawing in [(("arrow", 0, 3), (4, ((0, 1), (0, 3)), ((0, 3),))),
                              (("unarrow", 0, 1), (4, (), ((0, 3),))),
                              (("cause", (0, 1, 2)), (4, ((0, 1),), ((0, 1, 2), (0, 3)))),
                              (("uncause", (0, 3)), (4, ((0, 1),), ())),
                              (("hide", 0), (3, (), ((0, 2),))), (("hide", 2), (3, ((0, 1),), ((0, 2),)))]:
            self.assertEqual(session_step(state=state, deed=deed), ((drawing, (state[0],)), None))
            self.compare(state, deed)

    def test_example(self):
        deeds = (ASK, ("unarrow", 0, 2), ASK, ("undo",), ASK)
        state, answers = played(drawing=HARDER, deeds=deeds)
        self.assertEqual(state, begun(HARDER))
        self.assertEqual([told and told[0] for told in answers], ["not", None, "told", None, "not"])
        self.assertEqual(played(HARDER, deeds[:3]), ((EXAMPLE, (HARDER,)), answers[:3]))

    def test_long_pasts(self):
        drawing = (2, (), ())
        turns = [("arrow", 0, 1), ("unarrow", 0, 1)] * 101
        state, answers = played(drawing, tuple(turns[:199]))
        self.assertEqual((len(state[1]), answers), (199, (None,) * 199))
        state = self.compare(state, turns[199])
        self.assertEqual(len(state[1]), 200)
        self.assertEqual(played(drawing, tuple(turns[:200]))[0], state)
        for deed in [turns[200], ("cause", (0, 1)), ("hide", 0), ("hide", 1)]:
            assert_refused(self, TooGreat, {"most": 200}, session_step, state, deed)
            assert_refused(self, TooGreat, {"most": 200}, played, drawing, tuple(turns[:200]) + (deed,))
        self.compare(state, ("ask", (), (), (), (0,)))
        # One taken back lets one more.
        state = self.compare(state, ("undo",))
        self.assertEqual(len(state[1]), 199)
        self.compare(state, ("cause", (0, 1)))
        assert_refused(self, BadDeed, {"place": (1,)}, session_step, (drawing, past_of(201)), ("undo",))

    def test_many_deeds_but_a_short_past(self):
        deeds = (("arrow", 0, 1), ("undo",)) * 300 + (("ask", (), (0,), (), (1,)),) * 3
        state, answers = played((2, (), ()), deeds)
        self.assertEqual(state, begun((2, (), ())))
        self.assertEqual(answers, (None,) * 600 + (solve(((2, (), ()), (), (0,), (), (1,))),) * 3)


class RefusalsTest(unittest.TestCase):

    STATE = ((4, ((0, 1), (1, 2)), ((0, 2), (1, 3))), ((4, (), ()),))
    FULL = (STATE[0], past_of(200))

    def refused(self, kind, told, deed, states=None):
        for state in states or (self.STATE, self.FULL):
            assert_refused(self, kind, told, session_step, state, deed)
            assert_refused(self, kind, told, played, state[0], (deed,))
            # What is refused changes nothing, and nothing behind it is looked at.
            assert_refused(self, kind, told, played, state[0], (("ask", (), (), (), (0,)), deed, HOSTILE))

    def test_no_deeds(self):
        for deed in NO_TUPLES + [(), ("Arrow", 0, 1), ("add", 0, 1), ("", 0), (HOSTILE, 0, 1), (b"undo",), (None,),
                                 (("undo",),), ["undo"], ("undo ",), (0, 1), (True,), ("solve", (), (), (), (0,))]:
            self.refused(BadDeed, {"place": ()}, deed)
        for word, many in WORDS.items():
            for other in range(6):
                if other != many:
                    self.refused(BadDeed, {"place": ()}, (word,) + (HOSTILE,) * other)

    def test_arrows(self):
        for told in [(0, 0), (1, 0), (0, 4), (3, 4), (-1, 0), (-1, 1), (2, 10 ** 5000), (True, 2), (0, True),
                     (False, 3), (0.0, 3), ("0", 3), (0, None), (None, 3), ((0,), (3,)), (HOSTILE, 3), (0, HOSTILE),
                     (HOSTILE, HOSTILE)]:
            for word in ("arrow", "unarrow"):
                self.refused(BadParameter, {"value": told}, (word,) + told)
        for arrow in all_arrows(4):
            self.refused(BadParameter, {"value": arrow},
                         ("arrow" if arrow in self.STATE[0][1] else "unarrow",) + arrow)
        for value in NO_INTEGERS:
            self.refused(BadParameter, {"value": (value, 3)}, ("arrow", value, 3))
            self.refused(BadParameter, {"value": (0, value)}, ("arrow", 0, value))

    def test_causes(self):
        for lot in NO_TUPLES + [(), (0,), (3,), (1, 0), (0, 0), (0, 4), (-1, 0), (0, 1, 10 ** 5000), (True, 2),
                                (0, True), (0.0, 1), ("0", "1"), [0, 1], (HOSTILE, 1), (0, HOSTILE), ((0, 1),)]:
            for word in ("cause", "uncause"):
                self.refused(BadParameter, {"value": lot}, (word, lot))
        for cause in all_causes(4):
            self.refused(BadParameter, {"value": cause},
                         ("cause" if cause in self.STATE[0][2] else "uncause", cause))

    def test_twenty_causes(self):
        states = [((10, ((0, 8), (0, 9)), PAIRS[:20]), past) for past in ((), past_of(200))]
        for state in states:
            self.refused(TooGreat, {"most": 20}, ("cause", PAIRS[20]), [state])
            # Behind that it is no such cause, that it is there already.
            self.refused(BadParameter, {"value": (0,)}, ("cause", (0,)), [state])
            self.refused(BadParameter, {"value": PAIRS[3]}, ("cause", PAIRS[3]), [state])
            self.refused(BadParameter, {"value": PAIRS[20]}, ("uncause", PAIRS[20]), [state])
            # Hidden, 0 leaves 21 causes.
            self.refused(TooGreat, {"most": 20}, ("hide", 0), [state])
        fewer = begun((10, (), PAIRS[:19]))
        told, _ = session_step(fewer, ("cause", PAIRS[19]))
        self.assertEqual(told[0], (10, (), PAIRS[:20]))
        assert_refused(self, TooGreat, {"most": 20}, session_step, told, ("cause", PAIRS[20]))
        session_step(told, ("uncause", PAIRS[0]))

    def test_hidden_things(self):
        for thing in NO_INTEGERS + [-1, 4, 10, 10 ** 5000]:
            self.refused(BadParameter, {"value": thing}, ("hide", thing))
        for past in ((), past_of(200)):
            self.refused(BadParameter, {"value": 0}, ("hide", 0), [((1, (), ()), past)])

    def test_asks(self):
        for lots_told, place in [((None, (), (), (0,)), 1), (((), None, (), (0,)), 2), (((), (), None, (0,)), 3),
                                 (((), (), (), None), 4), (((), (), (), ()), 4), (((0,), (1,), (), (2,)), 1),
                                 (((), (1,), (1,), (2,)), 3), (((), (1,), (), (1,)), 4), (((), (), (2,), (2,)), 4),
                                 (((), (), (), (4,)), 4), ((HOSTILE,) * 4, 1), (((), (), (), (HOSTILE,)), 4)]:
            self.refused(BadQuestion, {"place": (place,)}, ("ask",) + lots_told)
        # A long past is no matter.
        told = session_step(self.FULL, ("ask", (), (0,), (), (1,)))
        self.assertEqual(told, (self.FULL, solve((self.FULL[0], (), (0,), (), (1,)))))

    def test_nothing_to_be_taken_back(self):
        assert_refused(self, NoRow, {}, session_step, begun(EXAMPLE), ("undo",))
        assert_refused(self, NoRow, {}, played, EXAMPLE, (("undo",),))
        assert_refused(self, NoRow, {}, played, EXAMPLE, (("arrow", 0, 2), ("undo",), ("undo",)))

    def test_a_refused_deed_in_the_middle(self):
        deeds = [("arrow", 0, 2), ASK, ("hide", 1)]
        for deed, kind, told in [(("arrow", 0, 1), BadParameter, {"value": (0, 1)}), (("jump",), BadDeed, {"place": ()}),
                                 (("ask", (), (), (), ()), BadQuestion, {"place": (4,)}),
                                 (("hide", 3), BadParameter, {"value": 3})]:
            for at in range(2):
                assert_refused(self, kind, told, played, EXAMPLE, tuple(deeds[:at] + [deed] + deeds[at:]))
            # The first one that is refused is told.
            assert_refused(self, kind, told, played, EXAMPLE, (deeds[0], deed, ("jump",), None))

    def test_states_come_ahead_of_deeds(self):
        bad_state = ((EXAMPLE, None), BadDeed, {"place": (1,)})
        assert_first_told(self, session_step, {"state": begun(EXAMPLE), "deed": ASK},
                          {"state": bad_state, "deed": (("arrow", 0, 1), BadParameter, {"value": (0, 1)})})
        assert_first_told(self, session_step, {"state": begun(EXAMPLE), "deed": ASK},
                          {"state": bad_state, "deed": (("jump",), BadDeed, {"place": ()})})
        assert_first_told(self, need_state, {"state": begun(EXAMPLE)}, {"state": bad_state})

    def test_drawings_come_ahead_of_deeds(self):
        assert_first_told(self, played, {"drawing": EXAMPLE, "deeds": (ASK,)},
                          {"drawing": BAD_DRAWING, "deeds": bad_parameter(None)})
        for deeds in NO_TUPLES + [[ASK], [], {}]:
            assert_refused(self, BadParameter, {"value": deeds}, played, EXAMPLE, deeds)
        assert_refused(self, BadDeed, {"place": ()}, played, EXAMPLE, ASK)
        self.assertEqual(played(EXAMPLE, ()), (begun(EXAMPLE), ()))
        for drawing in NO_TUPLES + [()]:
            assert_refused(self, BadDrawing, {"place": ()}, played, drawing, None)

    def test_drawings_that_deeds_leave(self):
        chooser = random.Random(483)
        for _ in range(60):
            state = begun(some_drawing(chooser, 6))
            while state[0][0] > 1:
                thing = chooser.randrange(state[0][0])
                if refusal(session_step, state, ("hide", thing)):
                    break
                state, _ = session_step(state, ("hide", thing))
                need_drawing(state[0])


if __name__ == "__main__":
    unittest.main()
