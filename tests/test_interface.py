"""The interface: names, the parameters' names, and the file in which each is defined."""

import ast
import importlib
import inspect
import unittest
from pathlib import Path

import deedseen

FOLDER = Path(deedseen.__file__).parent

# All of it, file by file, as DOC.md lists it.
FUNCTIONS = {
    "drawings": ["need_drawing(drawing)", "need_lot(drawing, value)", "parents_of(drawing, lot, thing)",
                 "children_of(drawing, lot, thing)", "causes_of(drawing, thing)", "linked(drawing, one, other)",
                 "leading(drawing, lot, goal)", "rooms(drawing, lot)", "closed_up(drawing, lot, some)",
                 "goal_of(drawing, shut, ends)"],
    "texts": ["drawing_text(drawing)", "read_drawing(text)", "question_text(question)", "read_question(text)",
              "paper_text(paper)", "read_paper(text)", "hedge_text(hedge)", "read_hedge(text)", "world_text(world)",
              "read_world(drawing, text)"],
    "worlds": ["need_world(drawing, world)", "factor(drawing, world, lot)", "set_chances(drawing, world, deed)",
               "is_open(drawing, world, tried)"],
    "roads": ["cut_drawing(drawing, over, under)", "open_road(drawing, over, under, one, others, seen)",
              "is_open_road(drawing, over, under, one, others, seen, value)",
              "shut(drawing, over, under, one, others, seen)"],
    "hanging": ["hanging(drawing, over, under, one, others, seen)",
                "is_hanging(drawing, over, under, one, others, seen, value)"],
    "answers": ["answer(question, world)", "watched(question, world)"],
    "steps": ["lots_of(question, steps)", "is_steps(question, value)"],
    "checking": ["may_move(question, moved, thing)", "is_paper(question, value)", "is_hedge(question, value)"],
    "tables": ["need_table(question, table)"],
    "values": ["step_factors(question, steps, table)", "by_paper(question, paper, table)", "lean(question, paper)"],
    "solving": ["solve(question)", "is_told(question)", "solving_after(question, many)"],
    "doubles": ["two_worlds(question, hedge)", "is_two_worlds(question, value)"],
    "seeing": ["moved_all(question)", "moved_question(question, moved)", "back_road(question, thing)",
               "told_with(question, more)", "least_seen(question)"],
    "rules": ["beside(question, rule, thing)", "forget(question, thing)", "set_for_seen(question, thing)",
              "undo(question, thing)"],
    "aparts": ["apart(question, rule, thing)", "is_apart(question, rule, thing, value)"],
    "tries": ["with_tried(question, tried)", "told_by(question, tried)", "cheapest_try(question, prices)",
              "is_cheapest_try(question, prices, value)"],
    "hiding": ["hidden(drawing, thing)", "shown(thing, lot)"],
    "hiddenworlds": ["world_hidden(drawing, world, thing)", "world_shown(drawing, world, thing)"],
    "watching": ["hidden_all(question, lot)", "cheapest_watch(question, prices)",
                 "is_cheapest_watch(question, prices, value)"],
    "denials": ["items_of(drawing)", "without(question, denied)", "least_denials(question, order)",
                "is_denials(question, order, value)"],
    "sessions": ["begun(drawing)", "need_state(state)", "session_step(state, deed)", "played(drawing, deeds)"],
    "questions": ["need_question(question)", "things_of(question)", "goal(question, moved)"],
    "chances": ["reduced(above, below)", "plus(one, other)", "times(one, other)", "over(one, other)"],
}
CLASSES = ["BadDrawing(place)", "BadLot(value)", "BadWorld(place)", "BadTable(place)", "BadQuestion(place)",
           "BadSteps(place)", "BadHedge(value)", "BadRoad(value)", "BadText(line, word)", "BadDeed(place)",
           "BadParameter(value)", "Nought(row)", "NoRow()", "TooGreat(most)"]


def defined(file):
    """The functions and classes that a file itself defines."""
    tree = ast.parse((FOLDER / f"{file}.py").read_text(encoding="utf-8"))
    return {node.name for node in tree.body if isinstance(node, (ast.FunctionDef, ast.ClassDef))}


class InterfaceTest(unittest.TestCase):

    def test_functions(self):
        for file, told in FUNCTIONS.items():
            module = importlib.import_module(f"deedseen.{file}")
            names = defined(file)
            for function in told:
                name = function.partition("(")[0]
                self.assertIn(name, names)
                found = inspect.signature(getattr(module, name))
                self.assertEqual(name + str(found), function)

    def test_classes(self):
        module = importlib.import_module("deedseen.errors")
        names = defined("errors")
        self.assertIn("DeedError", names)
        for told in CLASSES:
            name = told.partition("(")[0]
            self.assertIn(name, names)
            self.assertEqual(name + str(inspect.signature(getattr(module, name))), told)

    def test_wording_is_there(self):
        self.assertTrue((FOLDER / "wording.py").is_file())


if __name__ == "__main__":
    unittest.main()
