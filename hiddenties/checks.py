"""The errors for arguments beside a solvable model."""

from hiddenties.errors import InvalidForcings, InvalidLot, InvalidMotion, InvalidNumber, InvalidNumbers
from hiddenties.errors import InvalidOrders, InvalidPlace, InvalidPlaces, InvalidRow, InvalidUnknowns, NotSolvable
from hiddenties.errors import UnlikeSizes
from hiddenties.courses import is_motion_of
from hiddenties.grounds import Ground
from hiddenties.plainforms import plain_of
from hiddenties.values import check_model, first_wrong_index, is_course, is_fraction, is_natural, is_place, is_row
from hiddenties.values import is_tuple

MOST = 40


def ground_of(model):
    """What tells the motions of a model, which has to be a solvable one."""
    check_model(model)
    plain = plain_of(model)
    if plain is None:
        raise NotSolvable()
    return Ground(plain)


def check_sizes(model, other):
    if len(model) != len(other):
        raise UnlikeSizes()


def grounds_of(model, other):
    """What tells the motions of two models with as many unknowns."""
    ground, beside = ground_of(model), ground_of(other)
    check_sizes(model, other)
    return ground, beside


def grounds_with(model, other, lot):
    """What tells the motions of two models with as many unknowns, beside a lot of the first one."""
    ground, beside = ground_of(model), ground_of(other)
    check_lot(lot, len(model))
    check_sizes(model, other)
    return ground, beside


def check_row(row, many):
    if not is_row(row, many):
        raise InvalidRow(row)


def check_motion(ground, motion):
    if not is_motion_of(ground, motion):
        raise InvalidMotion(motion)


def check_number(number, least):
    if not (is_natural(number) and least <= number <= MOST):
        raise InvalidNumber(number)


def check_orders(orders, many):
    if not is_tuple(orders, many):
        raise InvalidOrders(None)
    for index, order in enumerate(orders):
        if order is not None and not (is_natural(order) and order <= MOST):
            raise InvalidOrders(index)


def check_place(place, many):
    if not is_place(place, many):
        raise InvalidPlace(place)


def first_wrong_of_lot(value, many):
    """The index of the first element of a tuple with which it is no lot for so many unknowns; None."""
    for index, place in enumerate(value):
        if not is_place(place, many) or index > 0 and value[index - 1] >= place:
            return index
    return None


def check_unknowns(unknowns, many):
    if not isinstance(unknowns, tuple):
        raise InvalidUnknowns(None)
    index = first_wrong_index(unknowns, many)
    if index is not None:
        raise InvalidUnknowns(index)


def check_lot(lot, many):
    if not isinstance(lot, tuple):
        raise InvalidLot(None)
    index = first_wrong_of_lot(lot, many)
    if index is not None:
        raise InvalidLot(index)


def check_places(places, many):
    if not isinstance(places, tuple):
        raise InvalidPlaces(None)
    for index, place in enumerate(places):
        if not is_place(place, many) or place in places[:index]:
            raise InvalidPlaces(index)


def check_numbers(numbers, many):
    if not is_tuple(numbers, many):
        raise InvalidNumbers(None)
    for index, number in enumerate(numbers):
        if not is_fraction(number):
            raise InvalidNumbers(index)


def check_forcings(forcings, many):
    if not is_tuple(forcings, 0) and not is_tuple(forcings, many):
        raise InvalidForcings(None)
    for index, forcing in enumerate(forcings):
        if not is_course(forcing):
            raise InvalidForcings(index)
