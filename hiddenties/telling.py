"""How growths are told by a state lot, and which of its places may be exchanged."""

from hiddenties.checks import check_lot, check_number, check_place, ground_of
from hiddenties.fracs import ONE, negative
from hiddenties.greed import row_with_numbers
from hiddenties.lots import weights_on
from hiddenties.papers import paper_of
from hiddenties.values import check_index


def weighed_tie(many, lot, place, weights):
    """The row with 1 at a place, less the weighed places of a lot; nought if the place is one of these."""
    numbers = {own: negative(weight) for own, weight in zip(lot, weights)}
    if place in numbers:
        return ((),) * many
    numbers[place] = ONE
    return row_with_numbers(many, numbers)


def expressed(model, lot, unknown, order):
    """The weights at the lot and the row v that tell a growth of an unknown in all solutions."""
    ground = ground_of(model)
    check_lot(lot, len(model))
    check_index(unknown, len(model))
    check_number(order, 0)
    place = (unknown, order)
    weights = weights_on(ground, lot, [place])[0]
    return tuple(weights), paper_of(model, weighed_tie(len(model), lot, place, weights))


def may_leave(model, lot, place):
    """The lot of the places in whose place this one may come; itself alone if it is in the lot."""
    ground = ground_of(model)
    check_lot(lot, len(model))
    check_place(place, len(model))
    weights = weights_on(ground, lot, [place])[0]
    return tuple([own for own, weight in zip(lot, weights) if weight[0] != 0])


def growth_table(model, lot):
    """The table that makes of the numbers at the lot those at its places grown once, in motions."""
    ground = ground_of(model)
    check_lot(lot, len(model))
    later = [(unknown, growth + 1) for unknown, growth in lot]
    return tuple([tuple(weights) for weights in weights_on(ground, lot, later)])
