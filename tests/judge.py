"""Which claims are so, and which papers show them, by the words of point 37 and by plain search."""

from math import gcd

from tests import oracles


def is_whole(value):
    return type(value) is int


def is_natural(value):
    return is_whole(value) and value >= 0


def is_tuple(value, many):
    return type(value) is tuple and len(value) == many


def is_fraction(value):
    return is_tuple(value, 2) and all(map(is_whole, value)) and value[1] > 0 and gcd(*value) == 1


def is_polynomial(value):
    return type(value) is tuple and all(map(is_fraction, value)) and (value == () or value[-1] != (0, 1))


def is_row(value, many):
    return is_tuple(value, many) and all(map(is_polynomial, value))


def is_table(value, many):
    return is_tuple(value, many) and all(is_row(row, many) for row in value)


def is_model(value):
    return type(value) is tuple and value != () and is_table(value, len(value))


def is_pattern(value):
    return type(value) is tuple and value != () and all(
        is_tuple(row, len(value)) and all(order is None or is_natural(order) for order in row) for row in value
    )


def is_lot(value, many):
    if type(value) is not tuple:
        return False
    if not all(is_tuple(place, 2) and all(map(is_natural, place)) and place[0] < many for place in value):
        return False
    return list(value) == sorted(set(value))


def is_solvable(value):
    return is_model(value) and oracles.determinant(value) != ()


def are_two(parts):
    return is_solvable(parts[0]) and is_solvable(parts[1]) and len(parts[0]) == len(parts[1])


def is_motion(model, value):
    starts = oracles.free_starts(model)
    if not is_tuple(value, len(model)):
        return False
    if not all(is_tuple(course, starts) and all(map(is_fraction, course)) for course in value):
        return False
    return oracles.is_motion(model, value)


def reach_of(lot):
    return 1 + max([growth for _, growth in lot], default=0)


def is_change(model, table):
    """Whether a value is a table for the model with a number other than 0 as determinant."""
    return is_table(table, len(model)) and len(oracles.determinant(table)) == 1


def is_tie_on(model, lot, row):
    if not is_row(row, len(model)) or not any(row):
        return False
    return set(oracles.places_of(row)) <= set(lot) and oracles.paper(model, row) is not None


def read_at(model, lot):
    motions = oracles.spanning_motions(model, reach_of(lot))
    return [[motion[unknown][growth] for unknown, growth in lot] for motion in motions]


def has_form(claim):
    """Whether a value has the form of a claim, and its parts are valid ones for it."""
    if type(claim) is not tuple or claim == () or type(claim[0]) is not str:
        return False
    word, parts = claim[0], claim[1:]
    forms = {
        "weight": (is_pattern, is_natural), "no choice": (is_pattern,), "sure": (is_pattern,),
        "not sure": (is_pattern,), "solvable": (is_model,), "loose": (is_model,), "sound": (is_model,),
        "weak": (is_solvable,), "tie": (is_solvable, None), "no tie": (is_solvable, None),
        "states": (is_solvable, None), "no states": (is_solvable, None), "alike": (is_solvable, is_solvable),
        "unlike": (is_solvable, is_solvable), "carries": (is_solvable, is_solvable, None),
        "loses": (is_solvable, is_solvable, None),
    }.get(word)
    if forms is None or len(forms) != len(parts):
        return False
    if not all(form is None or form(part) for form, part in zip(forms, parts)):
        return False
    if word in ("tie", "no tie"):
        return is_row(parts[1], len(parts[0]))
    if word in ("states", "no states"):
        return is_lot(parts[1], len(parts[0]))
    if word in ("alike", "unlike"):
        return are_two(parts)
    return word not in ("carries", "loses") or are_two(parts) and is_lot(parts[2], len(parts[0]))


def is_so(claim):
    """Whether a claim of the right form is so; a second way to look at it than by papers."""
    word, one, rest = claim[0], claim[1], claim[2:]
    if word.startswith("no ") or word.startswith("not ") or word in ("loose", "weak", "unlike", "loses"):
        contrary = {
            "no choice": "weight", "not sure": "sure", "loose": "solvable", "weak": "sound", "no tie": "tie",
            "no states": "states", "unlike": "alike", "loses": "carries",
        }[word]
        more = (oracles.heaviest(one)[0],) if word == "no choice" else rest
        return not is_so((contrary, one) + more)
    if word == "weight":
        return rest[0] is not None and oracles.heaviest(one)[0] == rest[0]
    if word == "sure":
        return len(oracles.heaviest(one)[1]) == 1
    if word == "solvable":
        return oracles.determinant(one) != ()
    if word == "sound":
        return oracles.is_sound(one)
    if word == "tie":
        return oracles.paper(one, rest[0]) is not None
    if word == "states":
        starts = oracles.free_starts(one)
        return len(rest[0]) == starts == oracles.rank(read_at(one, rest[0]))
    if word == "alike":
        table = oracles.factor(one, rest[0])
        return table is not None and len(oracles.determinant(table)) == 1
    told = read_at(rest[0], rest[1])
    return oracles.rank(told) == oracles.rank(told + read_at(one, rest[1]))


def shows_weight(parts, paper):
    pattern, number = parts
    if not is_tuple(paper, 2) or not is_tuple(paper[1], 2):
        return False
    choice, offsets, many = paper[0], paper[1], len(pattern)
    if not all(is_tuple(part, many) and all(map(is_natural, part)) for part in (choice,) + offsets):
        return False
    if choice not in oracles.all_choices(pattern) or not oracles.are_offsets(pattern, offsets):
        return False
    return oracles.weight(pattern, choice) == number == sum(offsets[1]) - sum(offsets[0])


def shows_no_choice(parts, paper):
    return type(paper) is tuple and all(map(is_natural, paper)) and oracles.is_short_lot(parts[0], paper)


def shows_not_sure(parts, paper):
    return is_model(paper) and oracles.orders(paper) == parts[0] and not oracles.is_sound(paper)


def shows_loose(parts, paper):
    return is_row(paper, len(parts[0])) and any(paper) and not any(oracles.row_product(paper, parts[0]))


def shows_weak(parts, paper):
    if not is_change(parts[0], paper):
        return False
    return not oracles.is_sound(parts[0]) and oracles.is_sound(oracles.table_product(paper, parts[0]))


def shows_tie(parts, paper):
    return is_row(paper, len(parts[0])) and oracles.row_product(paper, parts[0]) == parts[1]


def shows_no_tie(parts, paper):
    model, row = parts
    if not is_motion(model, paper):
        return False
    longest = max(len(item) for item in row)
    courses = oracles.further(model, paper, oracles.free_starts(model) + longest)
    return oracles.led_at(row, courses, 0) != 0


def shows_no_states(parts, paper):
    model, lot = parts
    if is_tie_on(model, lot, paper):
        return True
    if not is_motion(model, paper) or not any(number[0] for course in paper for number in course):
        return False
    courses = oracles.further(model, paper, max(reach_of(lot), oracles.free_starts(model)))
    return all(courses[unknown][growth] == 0 for unknown, growth in lot)


def shows_alike(parts, paper):
    return is_change(parts[0], paper) and oracles.table_product(paper, parts[0]) == parts[1]


def shows_unlike(parts, paper):
    if not is_tuple(paper, 2) or not is_whole(paper[0]) or paper[0] not in (0, 1):
        return False
    model, other, motion = parts[paper[0]], parts[1 - paper[0]], paper[1]
    if not is_motion(model, motion):
        return False
    starts, longest = oracles.free_starts(model), max(len(item) for row in other for item in row)
    # What is led is led to nought by the model's determinant, so as many growths as its degree tell it.
    courses = oracles.further(model, motion, starts + longest)
    return any(oracles.led_at(row, courses, growth) != 0 for row in other for growth in range(starts))


def shows_loses(parts, paper):
    model, other, lot = parts
    return is_tie_on(other, lot, paper) and oracles.paper(model, paper) is None


SHOWS = {
    "weight": shows_weight, "no choice": shows_no_choice, "not sure": shows_not_sure, "loose": shows_loose,
    "weak": shows_weak, "tie": shows_tie, "no tie": shows_no_tie, "no states": shows_no_states, "alike": shows_alike,
    "unlike": shows_unlike, "loses": shows_loses,
}


def accepts(claim, paper):
    """What the checker has to say."""
    if not has_form(claim):
        return False
    if claim[0] in SHOWS:
        return SHOWS[claim[0]](claim[1:], paper)
    return type(paper) is tuple and paper == () and is_so(claim)
