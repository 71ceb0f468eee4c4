"""Mended models: models with the same motions that have as many free starts as their pattern lets."""

from hiddenties.errors import NotSolvable
from hiddenties.models import determinant_of, is_solvable, is_sound
from hiddenties.polys import raised, scaled
from hiddenties.polytables import leading_table, null_weights, orders_of, row_scale, row_times
from hiddenties.polytables import table_times, unit_table
from hiddenties.tight import choice_and_offsets
from hiddenties.values import is_square


def check_solvable(model):
    if not is_solvable(model):
        raise NotSolvable()


def mending_step(model):
    """Which row is replaced next, and the row of the polynomials by which; None for a sound model."""
    grown, settled = choice_and_offsets(orders_of(model))[1]
    weights = null_weights(leading_table(model, (grown, settled)))
    if weights is None:
        return None
    used = [k for k, weight in enumerate(weights) if weight[0] != 0]
    place = min(used, key=lambda k: grown[k])
    # The other numbers are 0, also where an equation is grown less often than this one.
    factors = [()] * len(model)
    for k in used:
        factors[k] = raised((weights[k],), grown[k] - grown[place])
    return place, tuple(factors)


def with_row(table, place, row):
    """The table with another row at a place."""
    return table[:place] + (row,) + table[place + 1:]


def mending_pair(model):
    """A mending table of a solvable model, and what it makes of the model."""
    table, better = unit_table(len(model)), model
    step = mending_step(better)
    while step is not None:
        place, factors = step
        mixed, row = row_times(factors, table), row_times(factors, better)
        # Whole numbers without a common divisor keep the numbers of many steps small.
        scale = row_scale([number for item in mixed + row for number in item])
        table = with_row(table, place, tuple([scaled(item, scale) for item in mixed]))
        better = with_row(better, place, tuple([scaled(item, scale) for item in row]))
        step = mending_step(better)
    return table, better


def mending_table(model):
    """Any table with a number other than 0 as determinant that makes a sound model of this one."""
    check_solvable(model)
    return mending_pair(model)[0]


def mended(model):
    """Any sound model with the same motions that such a table makes of this one."""
    check_solvable(model)
    return mending_pair(model)[1]


def is_mending(model, value):
    """Whether a value, whatever it is, is a mending table of the model."""
    check_solvable(model)
    if not is_square(value) or len(value) != len(model):
        return False
    return len(determinant_of(value)) == 1 and is_sound(table_times(value, model))
