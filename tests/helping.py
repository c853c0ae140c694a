"""What several test files need: values to hand in, and ways of asking for refusals."""

from itertools import chain, combinations

from deedseen import errors


class Hostile:
    """A value that fails whatever it is asked."""

    def _fail(self, *_):
        raise RuntimeError("asked")

    __eq__ = __ne__ = __lt__ = __le__ = __gt__ = __ge__ = _fail
    __hash__ = __len__ = __iter__ = __bool__ = __index__ = __int__ = _fail
    __getitem__ = __contains__ = __str__ = __repr__ = _fail


HOSTILE = Hostile()

# Neither tuples nor integers nor strings.
OTHER_KINDS = [None, True, False, 1.0, 2.5, b"", b"0", [], [0], [0, 1], {}, {0: 1}, set(), {0},
               frozenset((0,)), object(), len, range(2), HOSTILE, [HOSTILE]]
NO_TUPLES = OTHER_KINDS + ["", "0", "watched", 0, 1, -1, 10 ** 5000]
NO_INTEGERS = OTHER_KINDS + ["", "0", "1", (), (0,), (1,)]
NO_STRINGS = OTHER_KINDS + [0, 1, (), ("0",)]

EXAMPLE = (3, ((0, 1), (1, 2)), ((0, 2),))


def lots(count):
    """All lots of so many things."""
    return subsets(range(count))


def subsets(things):
    things = tuple(things)
    return list(chain.from_iterable(combinations(things, many) for many in range(len(things) + 1)))


def all_arrows(count):
    return tuple(combinations(range(count), 2))


def all_causes(count):
    return tuple(sorted(lot for lot in lots(count) if len(lot) > 1))


def all_drawings(count):
    """All drawings of so many things: 1, 4, 128 of one, two, three."""
    return [(count, arrows, causes) for arrows in subsets(all_arrows(count))
            for causes in subsets(all_causes(count))]


def some_of(chooser, things, many=None):
    """Some of things, ascending; so many, or any number."""
    things = list(things)
    if many is None:
        many = chooser.randint(0, len(things))
    return tuple(sorted(chooser.sample(things, many)))


def some_drawing(chooser, count):
    arrows = some_of(chooser, all_arrows(count))
    lots_of_two = all_causes(count)
    causes = some_of(chooser, lots_of_two, chooser.randint(0, min(len(lots_of_two), 6)))
    return count, arrows, causes


def some_world(chooser, drawing, sizes=None, hidden=None, least=0, most=5):
    """A world with weights from least to most, at least one of each row above 0."""
    count, arrows, causes = drawing
    sizes = sizes or tuple(chooser.randint(1, 2) for _ in range(count))
    hidden = hidden or tuple(chooser.randint(1, 2) for _ in causes)

    def weights(many):
        told = [chooser.randint(least, most) for _ in range(many)]
        told[chooser.randrange(many)] += 1
        return tuple(told)

    tables = []
    for thing in range(count):
        rows = 1
        for start, end in arrows:
            if end == thing:
                rows *= sizes[start]
        for many, cause in zip(hidden, causes):
            if thing in cause:
                rows *= many
        tables.append(tuple(weights(sizes[thing]) for _ in range(rows)))
    return sizes, tuple(weights(many) for many in hidden), tuple(tables)


def refusal(function, *parameters, **named):
    """The kind of the error and its attributes; None without one."""
    try:
        function(*parameters, **named)
    except errors.DeedError as error:
        return type(error), dict(vars(error))
    return None


def assert_refused(case, kind, told, function, *parameters, **named):
    """Ask for just this error, with just these attributes, the very values of them."""
    found = refusal(function, *parameters, **named)
    # Not assertEqual: values that fail when they are compared or shown are handed in, too.
    if found is None:
        case.fail(f"{function.__name__} refused nothing, for {kind.__name__}")
    if found[0] is not kind or list(found[1]) != list(told):
        case.fail(f"{function.__name__} raised {found[0].__name__}, not {kind.__name__}")
    for name, value in told.items():
        if found[1][name] is value:
            continue
        if type(found[1][name]) is not type(value) or found[1][name] != value:
            case.fail(f"{function.__name__}, {kind.__name__}: {name} is {found[1][name]!r}, not {value!r}")


def assert_first_told(case, function, right, wrong):
    """Of wrong parameters the first one is told, by position as well as by name.

    `right` is a dict of right parameters in their order, `wrong` has for some of
    them a wrong value, the error, and its attributes.
    """
    function(**right)
    function(*right.values())
    for some in subsets(wrong):
        if not some:
            continue
        names = [name for name in right if name in some]
        handed = {**right, **{name: wrong[name][0] for name in names}}
        _, kind, told = wrong[names[0]]
        assert_refused(case, kind, told, function, **handed)
        assert_refused(case, kind, told, function, *handed.values())


def assert_plain(case, value):
    """Results are tuples, integers, strings, True, False and None."""
    if type(value) is tuple:
        for thing in value:
            assert_plain(case, thing)
    else:
        case.assertIn(type(value), (int, str, bool, type(None)))


BAD_DRAWING = ((3, (), ((0,),)), errors.BadDrawing, {"place": (2, 0)})


def bad_lot(value):
    return value, errors.BadLot, {"value": value}


def bad_parameter(value):
    return value, errors.BadParameter, {"value": value}
