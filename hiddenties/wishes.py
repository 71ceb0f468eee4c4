"""Names and wishes of a workshop: which values are some, and whether a wish holds."""

from hiddenties.alikes import are_alike
from hiddenties.models import determinant_of, is_solvable, is_sound
from hiddenties.states import is_lot, is_state_lot
from hiddenties.values import is_natural, is_tuple

LETTERS = "abcdefghijklmnopqrstuvwxyz"
LONGEST = 12


def is_name(value):
    """Whether a value is a text that may be the name of a model."""
    if not isinstance(value, str) or not 1 <= len(value) <= LONGEST:
        return False
    return all([letter in LETTERS for letter in value])


def is_growth_pair(value):
    """Whether a value is a pair of whole numbers from 0 on."""
    return is_tuple(value, 2) and is_natural(value[0]) and is_natural(value[1])


def is_wished_lot(value):
    """Whether a value is an ascending tuple of pairs: a lot of some model."""
    if not isinstance(value, tuple) or not all([is_growth_pair(place) for place in value]):
        return False
    return all([one < other for one, other in zip(value, value[1:])])


def is_wish(value):
    """Whether a value is a wish."""
    if not isinstance(value, tuple) or len(value) < 2 or not isinstance(value[0], str) or not is_name(value[1]):
        return False
    word, rest = value[0], value[2:]
    if word == "solvable" or word == "sound":
        return len(rest) == 0
    if len(rest) != 1:
        return False
    if word == "free":
        return is_natural(rest[0])
    if word == "states":
        return is_wished_lot(rest[0])
    return word == "alike" and is_name(rest[0])


def names_in(wish):
    """The names of the models that a wish is about, in its order."""
    return wish[1:] if wish[0] == "alike" else wish[1:2]


def have_states(model, lot):
    """Whether a model is solvable, and this is a state lot of it."""
    return is_solvable(model) and is_lot(model, lot) and is_state_lot(model, lot)


def same_motions(model, other):
    """Whether both models are solvable, of one size, and have the same motions."""
    return len(model) == len(other) and is_solvable(model) and is_solvable(other) and are_alike(model, other)


def holds(wish, models):
    """Whether a wish holds with the models that the names have."""
    word, model = wish[0], models[wish[1]]
    if word == "solvable":
        return is_solvable(model)
    if word == "free":
        return len(determinant_of(model)) == wish[2] + 1
    if word == "sound":
        return is_sound(model)
    if word == "states":
        return have_states(model, wish[2])
    return same_motions(model, models[wish[2]])
