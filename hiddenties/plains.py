"""Plain models: of all models with the same motions just one is plain."""

from hiddenties.checks import ground_of
from hiddenties.fracs import ONE
from hiddenties.values import is_square


def is_plain_row(row, own, orders):
    """Whether an equation of a plain model with these orders may be this row."""
    if row[own][-1] != ONE:
        return False
    for unknown, item in enumerate(row):
        # What is told stands behind what tells it in the order of growths.
        limit = orders[own] + 1 if unknown < own else orders[own]
        if unknown != own and len(item) > min(orders[unknown], limit):
            return False
    return True


def is_plain(value):
    """Whether a value, whatever it is, is a plain model."""
    if not is_square(value):
        return False
    orders = [len(row[k]) - 1 for k, row in enumerate(value)]
    return min(orders) >= 0 and all([is_plain_row(row, k, orders) for k, row in enumerate(value)])


def plain_model(model):
    """The plain model with the same motions."""
    return ground_of(model).plain


def plain_lot(model):
    """The state lot taken by greed in the order of growths, ascending."""
    return ground_of(model).places
