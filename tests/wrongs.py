"""Values of every kind that are not what a function asks for."""

from hiddenties.errors import InvalidLot, InvalidModel, NotSolvable
from tests import makers

# Wrong arguments as `check_turns` takes them, for functions of any models, and of lots for two unknowns.
MODEL_TURNS = [
    ([], InvalidModel, ([],)), ((), InvalidModel, ((),)), (makers.LOOP, NotSolvable, ()),
    (makers.ALIKE, NotSolvable, ()),
]
LOT_TURNS = [(None, InvalidLot, (None,)), (((0, 1), (0, 0)), InvalidLot, (1,)), (((2, 0),), InvalidLot, (0,))]


class Touchy:
    """An object that can be asked nothing but its class."""

    def __eq__(self, other):
        raise RuntimeError("compared")

    def __bool__(self):
        raise RuntimeError("tested")

    def __len__(self):
        raise RuntimeError("measured")

    def __iter__(self):
        raise RuntimeError("iterated over")

    def __getitem__(self, at):
        raise RuntimeError("indexed")

    def __hash__(self):
        raise RuntimeError("hashed")

    def __lt__(self, other):
        raise RuntimeError("sorted")


def untouchy():
    """These values but for what cannot be compared."""
    return [value for value in anything() if type(value) is not Touchy]


def nested(depth, inner, kind=tuple):
    """A value nested so deep."""
    value = inner
    for _ in range(depth):
        value = kind([value])
    return value


def anything():
    """Values that are no whole number, no tuple of a wanted form, nothing at all."""
    return [
        None, True, False, "", "0", "((0,),)", b"", b"\x00", [], {}, set(), frozenset(), object(), Touchy(), int,
        len, range(2), iter(()), 10 ** 500, -10 ** 500, -1, {0: 0}, {0}, [0], [[0]], [()], "x" * 50,
        nested(14, 0), nested(13, ()), nested(14, 0, list), nested(7, nested(7, None, list)),
        (Touchy(),), ((Touchy(),),), (((Touchy(),),),), ((((Touchy(), 1),),),), (0, Touchy()),
    ]


def no_numbers():
    """Values that are no whole number from 0 on."""
    return [value for value in anything() if value is None or type(value) is not int] + [-1, -7, -10 ** 500]


def no_indexes(many):
    """Values that are no index of one of so many elements."""
    return no_numbers() + [many, many + 1, 10 ** 500, (0,), [0], "0"]


def no_fractions():
    """Values that are no fraction."""
    return [
        (2, 4), (0, 2), (0, 0), (1, 0), (1, -1), (-1, -2), (3, 3), (6, 4), (-6, 4), (True, 1), (1, True), (0, True),
        (False, 1), (1,), (1, 1, 1), [1, 1], ("1", "1"), (1, None), (None, 1), ((1, 1), (1, 1)), 1, 0, "11", b"11",
        None, True, (), (Touchy(), 1), (1, Touchy()), (1, [1]),
    ]


def no_polynomials():
    """Values that are no polynomial."""
    ends = [((0, 1),), ((1, 1), (0, 1)), ((0, 1), (0, 1)), ((1, 2), (3, 1), (0, 1))]
    inside = [(value,) for value in no_fractions()] + [((1, 1), value, (1, 1)) for value in no_fractions()]
    return ends + inside + [
        [], [(1, 1)], None, 0, 1, "", True, (1, 1), {}, Touchy(), ([1, 1],), {(1, 1): 1}, {(1, 1)},
    ]


def no_rows(many):
    """Values that are no row of so many polynomials."""
    short, long = ((),) * (many - 1), ((),) * (many + 1)
    wide = [((),) * (many - 1) + (value,) for value in no_polynomials()]
    return wide + [short, long, [()] * many, (((1, 1),),) * (many + 1), None, 0, "x" * many]


def no_models():
    """Values that are no model."""
    found = anything() + [(), ((),), [[()]], ([()],), [((),)], (((), ()),), (((),), ((),)), ((0,),), ((None,),)]
    found += [(row,) for row in no_rows(1)]
    found += [(((), ()), row) for row in no_rows(2)] + [(row, ((), ())) for row in no_rows(2)]
    found += [(((),) * 3,) * 2, (((),) * 2,) * 3, ((((1, 1),),),) * 2, (((),), ((), ()))]
    return found


def no_entries():
    """Values that may not stand in a pattern."""
    return [value for value in no_numbers() if value is not None] + ["None", (), (0,), (None,)]


def no_patterns():
    """Values that are no pattern."""
    found = anything() + [(), ((),), [[0]], ([0],), [(0,)], ((0, 0),), ((0,), (0,)), ((0,), (0, 0)), (0,), (None,)]
    found += [((value,),) for value in no_entries()]
    found += [((0, 1), (None, value)) for value in no_entries()]
    found += [((0, value), (None, 1)) for value in no_entries()]
    found += [((0, 0), (0, 0, 0)), ((0, 0), (0,)), ((0, 0, 0), (0, 0)), ((0, 0), [0, 0]), ((0, 0), "00")]
    found += [(((0, 0), 0), (0, 0)), ((0, 0), (0, 0), (0, 0)), ((0, 0), None)]
    return found


def no_choices(pattern, choice):
    """Values that are no choice of a pattern, by one that is."""
    found = anything() + [list(choice), choice + (0,), choice[:-1], (choice,), choice + choice, (choice, choice)]
    for k in range(len(choice)):
        for value in no_indexes(len(choice)):
            found.append(choice[:k] + (value,) + choice[k + 1:])
        for value, order in enumerate(pattern[k]):
            if value != choice[k] or order is None:
                found.append(choice[:k] + (value,) + choice[k + 1:])
    found.append(tuple(unknown - len(choice) for unknown in choice))
    if 1 in choice:
        found.append(tuple(True if unknown == 1 else unknown for unknown in choice))
    return found


def no_offsets(pattern, offsets):
    """Values that are no offsets of a pattern, by the least ones."""
    grown, settled = offsets
    found = anything() + [
        list(offsets), (list(grown), settled), (grown, list(settled)), (grown,), (grown, settled, ()), (settled,),
        (grown + (0,), settled), (grown, settled + (0,)), (grown[:-1], settled), (grown, settled[:-1]),
        grown + settled, ((), ()), (None, settled), (grown, None), ((grown, settled),), {0: grown, 1: settled},
    ]
    # Exchanged, their span is below 0, and so below the weight of a choice.
    if sum(settled) > sum(grown):
        found.append((settled, grown))
    for k in range(len(grown)):
        for value in no_numbers():
            found.append((grown[:k] + (value,) + grown[k + 1:], settled))
            found.append((grown, settled[:k] + (value,) + settled[k + 1:]))
        if settled[k] > 0:
            found.append((grown, settled[:k] + (settled[k] - 1,) + settled[k + 1:]))
        # Each equation with a mentioned unknown is stopped by some d; with the least offsets this one is tight.
        if any(order is not None for order in pattern[k]):
            found.append((grown[:k] + (grown[k] + max(settled) + 1,) + grown[k + 1:], settled))
    return found


def no_courses(many):
    """Values that are no courses for a model of so many unknowns."""
    found = anything() + [[()] * many, ((),) * (many + 1), ((),) * (many - 1), (((1, 1),),) * (many + 1), (None,) * many]
    for value in no_fractions():
        found.append(((value,),) + (((1, 1),),) * (many - 1))
        found.append((((1, 1), value),) + (((1, 1), (1, 1)),) * (many - 1))
        found.append((((1, 1),),) * (many - 1) + ((value,),))
    if many > 1:
        found += [(((1, 1),),) + ((),) * (many - 1), ((),) * (many - 1) + (((0, 1),),)]
        found += [([(1, 1)],) + (((1, 1),),) * (many - 1), ((1, 1),) + ((1, 1),) * (many - 1)]
    return found


def no_motions(motion):
    """Values that are no motion of a model, by one that is; they are so by their form alone."""
    found = anything() + [list(motion), motion + (motion[0],), motion[:-1], (motion,), (None,) * len(motion)]
    found.append(tuple(list(course) for course in motion))
    found.append(tuple(course + ((0, 1),) for course in motion))
    for k, course in enumerate(motion):
        for other in (list(course), course + ((0, 1),), course[1:], course[:-1], (course,), None, 0):
            if other != course:
                found.append(motion[:k] + (other,) + motion[k + 1:])
        for at in range(len(course)):
            for value in no_fractions():
                found.append(motion[:k] + (course[:at] + (value,) + course[at + 1:],) + motion[k + 1:])
    return [value for value in found if type(value) is not tuple or repr(value) != repr(motion)]


def no_numbers_to(least, most):
    """Values that are no whole number from one on up to another one."""
    return no_numbers() + [least - 1, most + 1, 10 ** 300, str(least), (least,), [least], float]


def no_orders(many):
    """Values that are no orders for so many unknowns, each with the index that is told."""
    found = [(value, None) for value in no_tuples()]
    found += [((0,) * (many - 1), None), ((0,) * (many + 1), None), ([0] * many, None), ((), None)]
    for k in range(many):
        for value in no_numbers() + [41, 10 ** 300, "1", (1,), [1]]:
            if value is not None:
                found.append(((1,) * k + (value,) + (None,) * (many - 1 - k), k))
                found.append(((None,) * k + (value,) * (many - k), k))
    return found


def no_tuples():
    return [value for value in anything() if type(value) is not tuple] + [0, 1]


def no_places(many):
    """Values that are no place of a model of so many unknowns."""
    found = anything() + [(), (0,), (0, 0, 0), [0, 0], "00", ((0, 0),), ([0], 0), (0, [0]), ((0, 0), 0), {0: 0}]
    found += [(value, 0) for value in no_indexes(many)]
    found += [(0, value) for value in no_numbers()]
    return found + [(many, 0), (-1, 0), (0, -1), (True, 0), (0, True), (False, 0), (0, None)]


def no_lots(many):
    """Values that are no lot of a model of so many unknowns, each with the index that is told."""
    found = [(value, None) for value in no_tuples() + [[(0, 0)], {(0, 0): 1}, {(0, 0)}]]
    for value in no_places(many):
        found += [((value,), 0), (((0, 0), value), 1), (((0, 1), (many - 1, 2), value, (0, 0)), 2), ((value, None), 0)]
    last = many - 1
    found += [
        (((0, 0), (0, 0)), 1), (((0, 1), (0, 0)), 1), (((0, 0), (last, 3), (last, 3)), 2),
        (((0, 0), (0, 2), (0, 1), (0, 0)), 2), (((0, 0), (0, 5), (last, 6), (0, 0), None), 3),
    ]
    if many > 1:
        found += [(((1, 0), (0, 0)), 1), (((0, 7), (1, 0), (0, 8)), 2), (((1, 0), (0, 40)), 1)]
    return found


def no_place_tuples(many):
    """Values that are no tuple of unlike places, each with the index that is told."""
    found = [(value, None) for value in no_tuples() + [[(0, 0)], {(0, 0): 1}, {(0, 0)}]]
    for value in no_places(many):
        found += [((value,), 0), (((0, 1), value), 1), (((many - 1, 2), (0, 1), value, (0, 1)), 2), ((value, None), 0)]
    last = many - 1
    return found + [
        (((0, 0), (0, 0)), 1), (((0, 1), (last, 5), (0, 1)), 2), (((last, 3), (0, 2), (0, 1), (0, 2), None), 3),
    ]


def no_number_tuples(many):
    """Values that are no fractions for a lot of so many places, each with the index that is told."""
    found = [(value, None) for value in no_tuples() + [[(1, 1)] * many]]
    found += [(((1, 1),) * (many + 1), None)]
    if many > 0:
        found += [((), None), (((1, 1),) * (many - 1), None), ((None,) * (many + 1), None)]
    for k in range(many):
        for value in no_fractions():
            found.append((((1, 2),) * k + (value,) + ((0, 1),) * (many - 1 - k), k))
            found.append((((1, 2),) * k + (value,) * (many - k), k))
    return found


def no_forcings(many):
    """Values that are no forcings for so many unknowns, each with the index that is told."""
    found = [(value, None) for value in no_tuples() + [[], [()] * many]]
    found += [(((),) * (many + 1), None), ((None,) * (many + 1), None)]
    if many > 1:
        found += [(((),) * (many - 1), None), ((((1, 1),),), None)]
    for k in range(many):
        for value in [None, 0, "", [], [(1, 1)], {}, Touchy(), (1, 1), "11"] + [(item,) for item in no_fractions()]:
            found.append(((((1, 1),),) * k + (value,) + ((),) * (many - 1 - k), k))
            found.append((((),) * k + (value,) * (many - k), k))
        for value in no_fractions():
            found.append((((),) * k + (((1, 1), (2, 1), value),) + ((),) * (many - 1 - k), k))
    return found


def no_unknown_tuples(many):
    """Values that are no ascending tuple of indexes of so many unknowns, each with the index that is told."""
    found = [(value, None) for value in no_tuples() + [[0], {0: 0}, {0}]]
    last = many - 1
    for value in no_indexes(many):
        found += [((value,), 0), ((value, None), 0)]
        if many > 1:
            found += [((0, value), 1), ((0, last, value, 0), 2)]
    found += [((0, 0), 1), ((last, last), 1), ((0, 0, None), 1)]
    return found + ([((last, 0), 1), ((0, last, 0), 2), ((0, last, last), 2)] if many > 1 else [])


def no_pieces():
    """Values that are no piece."""
    rows = (((1, 1),), ())
    found = anything() + [
        (), (1,), (1, (rows,), ()), [1, (rows,)], (1, [rows]), (1, None), (1, rows), ((rows,), 1), (1, ((),)),
        (1, ((rows[0],),)), (1, (rows, rows + ((),))), (1, (rows + ((),), rows)), (1, (rows, ())), (1, (rows, None)),
        (1, ((),), ()), (2, (rows,)), (2, (rows + ((),),)), (1, (list(rows),)), (1, (rows, list(rows))), {1: rows},
        (1, ("ab",)), (1, (rows, "ab")), (1, (0,)), (1, (Touchy(),)), (1, (rows, Touchy())), (Touchy(), (rows,)),
    ]
    for value in no_numbers() + [0, "1", (1,)]:
        found += [(value, ()), (value, (rows,))]
    for value in no_polynomials():
        found += [(1, ((value, ()),)), (1, (rows, ((), value))), (1, (rows + ((),), ((), (), value)))]
    return found


def turned_about(value):
    """What one change makes of a number or of a tuple: a part left out, added, exchanged, made a list, and so on."""
    if type(value) is tuple:
        found = [list(value), value + value[-1:], value + ((),), value + (0,), (value,), value[::-1], None]
        found += [value[:k] + value[k + 1:] for k in range(len(value))]
        found += [value[:k] + (value[k + 1], value[k]) + value[k + 2:] for k in range(len(value) - 1)]
        return [other for other in found if repr(other) != repr(value)]
    if type(value) is int:
        return [value + 1, value - 1, -value - 2, None, str(value), (value,), bool(value), 0 if value else 1]
    return [0, 1, False, "", ()] if value is None else ["", "Sure", b"tie", None, 0, value + " ", (value,), [value]]


def spoiled(value):
    """All values that differ from one at one place, at whatever depth."""
    found = turned_about(value)
    if type(value) is tuple:
        for k, part in enumerate(value):
            found += [value[:k] + (other,) + value[k + 1:] for other in spoiled(part)]
    return found


def no_names():
    """Values that cannot be the name of a model."""
    return anything() + [
        "abcdefghijklm", "a" * 13, "A", "aB", "a b", " a", "a ", "a1", "0", "a_", "_", "a-b", "a.", "\u00e4", "a\n",
        "\n", b"a", ("a",), ["a"], {"a": 1}, {"a"}, 97, "a" * 4000,
    ]


def no_wishes():
    """Values that are no wish."""
    found = anything() + [(), ("solvable",), ("a",), "solvable", ("solvable", "a", ()), ("sound", "a", "a")]
    found += [["solvable", "a"], ("free", "a"), ("alike", "a"), ("alike", "a", "b", "c"), ("states", "a")]
    found.append(("states", "a", (), ()))
    words = ("", "Solvable", "solvable ", "sound\n", "loose", "weak", "weight", "Free", 0, None, True, (), b"sound")
    found += [(word, "a") for word in words + ("free", "states", "alike")]
    found += [(word, "a", 1) for word in words + ("solvable", "sound", "states", "alike", ("free",))]
    found += [(word, "a", "a") for word in words + ("solvable", "sound", "states", "free", "unlike", ("alike",))]
    found += [(Touchy(), "a"), (Touchy(), "a", 1), (Touchy(), "a", ()), (Touchy(), "a", "a"), ("alike", "a", Touchy())]
    for name in no_names():
        found += [("solvable", name), ("sound", name), ("free", name, 1), ("states", name, ()), ("alike", name, "a")]
        found += [("alike", "a", name), ("alike", name, name)]
    found += [("free", "a", number) for number in no_numbers() + ["1", (1,), [1]]]
    found += [("states", "a", lot) for lot in no_tuples() + [[(0, 0)], {(0, 0): 1}]]
    for place in anything() + [(), (0,), (0, 0, 0), [0, 0], "00", (-1, 0), (0, -1), (True, 0), (0, False), ("0", 0)]:
        found += [("states", "a", (place,)), ("states", "a", ((0, 0), place))]
    lots = (((0, 0), (0, 0)), ((0, 1), (0, 0)), ((1, 0), (0, 5)), ((0, 0), (0, 2), (0, 1)), (0, 0), (0, 1))
    return found + [("states", "a", lot) for lot in lots]
