"""Drawings, questions, papers, hedges and worlds as texts: written, and read."""

from deedseen.drawings import need_drawing
from deedseen.errors import BadHedge, BadParameter, BadText, BadWorld
from deedseen.lots import is_tuple_of
from deedseen.questions import need_question
from deedseen.wording import Words, is_number, list_text, lot_text, number_texts, read_list, read_lot, read_number
from deedseen.worlds import need_world


def drawing_text(drawing):
    """Write a drawing."""
    need_drawing(drawing)
    return _drawing_text(drawing, "\n")


def _drawing_text(drawing, gap):
    count, arrows, causes = drawing
    arrow_list = list_text([f"arrow {start} {end}" for start, end in arrows], gap)
    cause_list = list_text([f"cause {lot_text(cause)}" for cause in causes], gap)
    return f"drawing {count} {arrow_list} {cause_list}"


def question_text(question):
    """Write a question."""
    need_question(question)
    pieces = ["question", _drawing_text(question[0], " ")]
    return " ".join(pieces + [lot_text(lot) for lot in question[1:]])


def paper_text(paper):
    """Write a paper, right or wrong."""
    if not _has_paper_form(paper):
        raise BadParameter(paper)
    moved, steps = paper
    step_list = list_text([_step_text(step) for step in steps], "\n")
    return f"paper {_lines_of(moved)} {step_list}"


def _has_paper_form(value):
    return is_tuple_of(value, 2) and _are_numbers(value[0]) and _are_steps(value[1])


def _are_numbers(value):
    return type(value) is tuple and all(is_number(number) for number in value)


def _are_steps(value):
    return type(value) is tuple and all(_has_step_form(step) for step in value)


def _has_step_form(value):
    if type(value) is not tuple or not value or type(value[0]) is not str:
        return False
    if value[0] == "watched":
        return len(value) == 1
    if value[0] == "join":
        return len(value) == 2 and _are_numbers(value[1])
    if value[0] not in ("sum", "part"):
        return False
    return len(value) == 3 and is_number(value[1]) and _are_numbers(value[2])


def _step_text(step):
    if step[0] == "watched":
        return "watched"
    if step[0] == "join":
        return f"join {lot_text(step[1])}"
    return f"{step[0]} {step[1]} {lot_text(step[2])}"


def _lines_of(numbers):
    """A list of integers that stands directly in a text's own form."""
    return list_text(number_texts(numbers), "\n")


def hedge_text(hedge):
    """Write a hedge, right or wrong."""
    if not is_tuple_of(hedge, 3) or not all(_are_numbers(lot) for lot in hedge):
        raise BadHedge(hedge)
    moved, great, small = hedge
    return f"hedge {_lines_of(moved)} {lot_text(great)} {lot_text(small)}"


def world_text(world):
    """Write a world, right or wrong."""
    if not is_tuple_of(world, 3):
        raise BadWorld(())
    sizes, hidden, tables = world
    if not _are_numbers(sizes):
        raise BadWorld((0,))
    if not _are_rows(hidden):
        raise BadWorld((1,))
    if type(tables) is not tuple or not all(_are_rows(table) for table in tables):
        raise BadWorld((2,))
    hidden_list = list_text(_weights_texts(hidden), "\n")
    table_list = list_text([_table_text(table) for table in tables], "\n")
    return f"world {_lines_of(sizes)} {hidden_list} {table_list}"


def _are_rows(value):
    return type(value) is tuple and all(_are_numbers(weights) for weights in value)


def _weights_texts(rows):
    lists = [list_text(number_texts(weights), " ") for weights in rows]
    return [f"weights {listed}" for listed in lists]


def _table_text(table):
    listed = list_text(_weights_texts(table), " ")
    return f"table {listed}"


def _words_of(text):
    if type(text) is not str:
        raise BadText(0, 0)
    return Words(text)


def read_drawing(text):
    """Read a drawing."""
    words = _words_of(text)
    drawing = _read_drawing(words)
    words.end()
    return need_drawing(drawing)


def _read_drawing(words):
    words.take("drawing")
    count = words.number()
    arrows = read_list(words, _read_arrow)
    return count, arrows, read_list(words, _read_cause)


def _read_arrow(words):
    words.take("arrow")
    start = words.number()
    return start, words.number()


def _read_cause(words):
    words.take("cause")
    return read_lot(words)


def read_question(text):
    """Read a question."""
    words = _words_of(text)
    words.take("question")
    drawing = _read_drawing(words)
    tried = read_lot(words)
    by_hand = read_lot(words)
    seen = read_lot(words)
    asked = read_lot(words)
    words.end()
    return need_question((drawing, tried, by_hand, seen, asked))


def read_paper(text):
    """Read a paper, right or wrong."""
    words = _words_of(text)
    words.take("paper")
    moved = read_list(words, read_number)
    steps = read_list(words, _read_step)
    words.end()
    return moved, steps


def _read_step(words):
    name = words.take_one_of(("watched", "sum", "part", "join"))
    if name == "watched":
        return (name,)
    if name == "join":
        return name, read_lot(words)
    step = words.number()
    return name, step, read_lot(words)


def read_hedge(text):
    """Read a hedge, right or wrong."""
    words = _words_of(text)
    words.take("hedge")
    moved = read_list(words, read_number)
    great = read_lot(words)
    small = read_lot(words)
    words.end()
    return moved, great, small


def read_world(drawing, text):
    """Read a world of a drawing."""
    need_drawing(drawing)
    words = _words_of(text)
    words.take("world")
    sizes = read_list(words, read_number)
    hidden = read_list(words, _read_weights)
    tables = read_list(words, _read_table)
    words.end()
    return need_world(drawing, (sizes, hidden, tables))


def _read_weights(words):
    words.take("weights")
    return read_list(words, read_number)


def _read_table(words):
    words.take("table")
    return read_list(words, _read_weights)
