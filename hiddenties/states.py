"""Lots of places: whether they are free, whether they settle a model, and the ties on them."""

from hiddenties.checks import check_lot, check_places, first_wrong_of_lot, ground_of
from hiddenties.greed import base_of, taken_of
from hiddenties.values import check_model


def is_lot(model, value):
    """Whether a value, whatever it is, is a lot of the model."""
    check_model(model)
    return isinstance(value, tuple) and first_wrong_of_lot(value, len(model)) is None


def ground_and_rank(model, lot):
    """What tells the motions of a model, and the rank of a lot of it."""
    ground = ground_of(model)
    check_lot(lot, len(model))
    return ground, len(taken_of(ground, lot))


def is_free(model, lot):
    """Whether some motion has any told numbers at the places of the lot."""
    _, rank = ground_and_rank(model, lot)
    return rank == len(lot)


def settles(model, lot):
    """Whether no two unlike motions have the same numbers at the places of the lot."""
    ground, rank = ground_and_rank(model, lot)
    return rank == len(ground.places)


def is_state_lot(model, lot):
    """Whether the lot is free and settles the model."""
    ground, rank = ground_and_rank(model, lot)
    return rank == len(lot) and rank == len(ground.places)


def lot_rank(model, lot):
    """The number of places of the greatest free lots within the lot."""
    _, rank = ground_and_rank(model, lot)
    return rank


def ties_on(model, lot):
    """The base of the ties on the lot, in the order of the places that are not taken."""
    ground = ground_of(model)
    check_lot(lot, len(model))
    return tuple(base_of(ground, lot))


def tie_on(model, lot):
    """The first tie of the base of the ties on the lot; None if the lot is free."""
    base = ties_on(model, lot)
    return base[0] if len(base) > 0 else None


def first_state_lot(model, places):
    """The lot of the places taken by greed in the told order; None if it is no state lot."""
    ground = ground_of(model)
    check_places(places, len(model))
    lot = [places[k] for k in taken_of(ground, places)]
    if len(lot) < len(ground.places):
        return None
    return tuple(sorted(lot))
