"""The checker: whether a paper shows a claim.

Wrong parts of a claim raise the errors of the functions that are asked; then nothing is accepted.
"""

from hiddenties.checks import check_lot, check_row, ground_of, grounds_of, grounds_with
from hiddenties.courses import further, is_motion_of, numbers_at
from hiddenties.errors import TieError
from hiddenties.grounds import is_tie_of
from hiddenties.heavy import weight_along
from hiddenties.mended import is_mending
from hiddenties.models import determinant_of, forced_growth, is_solvable, is_sound
from hiddenties.modes import carries_over
from hiddenties.polytables import orders_of, row_times, table_times
from hiddenties.states import is_state_lot
from hiddenties.sures import is_sure
from hiddenties.ties import led_growth
from hiddenties.values import are_offsets_of, check_model, check_pattern, is_choice_of, is_index, is_index_tuple
from hiddenties.values import is_natural, is_row, is_square, is_tuple


def is_nothing(paper):
    """Whether no paper is told."""
    return is_tuple(paper, 0)


def shows_weight(parts, paper):
    """A choice and offsets with the same number, which is the heaviest weight then."""
    pattern, number = parts
    check_pattern(pattern)
    if not (is_natural(number) and is_tuple(paper, 2)):
        return False
    choice, offsets = paper
    if not (is_choice_of(pattern, choice) and are_offsets_of(pattern, offsets)):
        return False
    return weight_along(pattern, choice) == number and sum(offsets[1]) - sum(offsets[0]) == number


def shows_no_choice(parts, paper):
    """Equations that mention fewer unknowns than they are."""
    pattern = parts[0]
    check_pattern(pattern)
    if not is_index_tuple(paper, len(pattern)):
        return False
    mentioned = [j for j in range(len(pattern)) if any([pattern[i][j] is not None for i in paper])]
    return len(mentioned) < len(paper)


def shows_sure(parts, paper):
    """No paper: the pattern is looked at."""
    return is_nothing(paper) and is_sure(parts[0])


def shows_not_sure(parts, paper):
    """A model of the pattern that is not sound: not solvable, or with too few free starts."""
    check_pattern(parts[0])
    return is_square(paper) and orders_of(paper) == parts[0] and not is_sound(paper)


def shows_solvable(parts, paper):
    """No paper: the determinant is looked at."""
    return is_nothing(paper) and is_solvable(parts[0])


def is_row_not_nought(value, many):
    """Whether a value is a row of so many polynomials that are not all nought."""
    return is_row(value, many) and any([len(item) > 0 for item in value])


def shows_loose(parts, paper):
    """Polynomials, not all nought, with which the rows sum to noughts."""
    model = parts[0]
    check_model(model)
    return is_row_not_nought(paper, len(model)) and not any([len(item) > 0 for item in row_times(paper, model)])


def shows_sound(parts, paper):
    """No paper: the leading numbers are looked at."""
    return is_nothing(paper) and is_sound(parts[0])


def shows_weak(parts, paper):
    """A table that mends the model, which asks for it."""
    return not is_sound(parts[0]) and is_mending(parts[0], paper)


def shows_tie(parts, paper):
    """The polynomials by which the rows of the model make the row."""
    model, row = parts
    if not is_solvable(model):
        return False
    check_row(row, len(model))
    return is_row(paper, len(model)) and row_times(paper, model) == row


def shows_no_tie(parts, paper):
    """A motion that the row does not lead to nought."""
    model, row = parts
    return led_growth(model, row, paper, 0)[0] != 0


def shows_states(parts, paper):
    """No paper: the lot is gone through."""
    model, lot = parts
    return is_nothing(paper) and is_state_lot(model, lot)


def is_tie_on(ground, lot, value):
    """Whether a value is a tie, not all nought, that lies on a lot."""
    if not is_row_not_nought(value, len(ground.orders)) or not lies_on(value, lot):
        return False
    return is_tie_of(ground, value)


def lies_on(row, lot):
    """Whether a row has numbers other than 0 only at places of a lot."""
    for unknown, item in enumerate(row):
        for growth, number in enumerate(item):
            if number[0] != 0 and (unknown, growth) not in lot:
                return False
    return True


def is_motion_off(ground, lot, value):
    """Whether a value is a motion, not all nought, with 0 at each place of a lot."""
    if not is_motion_of(ground, value):
        return False
    if not any([number[0] != 0 for course in value for number in course]):
        return False
    many = 1 + max([growth for _, growth in lot], default=0)
    return all([number[0] == 0 for number in numbers_at(further(ground, value, many), lot)])


def shows_no_states(parts, paper):
    """A tie on the lot, which is not free, or a motion unlike nought that its numbers do not tell from it."""
    model, lot = parts
    ground = ground_of(model)
    check_lot(lot, len(model))
    return is_tie_on(ground, lot, paper) or is_motion_off(ground, lot, paper)


def shows_alike(parts, paper):
    """The table by which the first model makes the second one, with a number as its determinant."""
    model, other = parts
    grounds_of(model, other)
    if not is_square(paper) or len(paper) != len(model):
        return False
    return table_times(paper, model) == other and len(determinant_of(paper)) == 1


def shows_unlike(parts, paper):
    """A motion of one of both models that is none of the other one."""
    grounds = grounds_of(parts[0], parts[1])
    if not is_tuple(paper, 2) or not is_index(paper[0], 2):
        return False
    index, motion = paper
    return is_motion_of(grounds[index], motion) and leads_on(grounds[index], parts[1 - index], motion)


def leads_on(ground, rows, motion):
    """Whether some of the rows lead a motion to what is not nought."""
    many = len(ground.places)
    courses = further(ground, motion, many + max([len(item) for row in rows for item in row]))
    return any([forced_growth(row, courses, growth)[0] != 0 for row in rows for growth in range(many)])


def shows_carries(parts, paper):
    """No paper: the ties on the lot are looked at."""
    model, other, lot = parts
    return is_nothing(paper) and carries_over(model, other, lot)


def shows_loses(parts, paper):
    """A tie of the second model on the lot that is none of the first one."""
    model, other, lot = parts
    ground, beside = grounds_with(model, other, lot)
    return is_tie_on(beside, lot, paper) and not is_tie_of(ground, paper)


# How many parts follow each word of a claim.
PARTS = {
    "weight": 2, "no choice": 1, "sure": 1, "not sure": 1, "solvable": 1, "loose": 1, "sound": 1, "weak": 1,
    "tie": 2, "no tie": 2, "states": 2, "no states": 2, "alike": 2, "unlike": 2, "carries": 3, "loses": 3,
}

# What looks at these parts and the paper.
LOOKS = {
    "weight": shows_weight, "no choice": shows_no_choice,
    "sure": shows_sure, "not sure": shows_not_sure,
    "solvable": shows_solvable, "loose": shows_loose,
    "sound": shows_sound, "weak": shows_weak,
    "tie": shows_tie, "no tie": shows_no_tie,
    "states": shows_states, "no states": shows_no_states,
    "alike": shows_alike, "unlike": shows_unlike,
    "carries": shows_carries, "loses": shows_loses,
}


def has_form(claim):
    """Whether a value is a tuple of a word of a claim and as many parts as belong to it, whatever these are."""
    if not isinstance(claim, tuple) or len(claim) == 0 or not isinstance(claim[0], str):
        return False
    return claim[0] in PARTS and len(claim) == PARTS[claim[0]] + 1


def accepts(claim, paper):
    """Whether a value is a claim, and another one a paper for it."""
    if not has_form(claim):
        return False
    shows = LOOKS[claim[0]]
    try:
        return shows(claim[1:], paper)
    except TieError:
        return False
