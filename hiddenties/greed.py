"""Places gone through by greed: which are taken, how all are told by these, and the ties that show it."""

from hiddenties.fracs import ONE, ZERO, negative, reduced
from hiddenties.grounds import rests_of
from hiddenties.polys import trimmed
from hiddenties.tables import full_stairs, stairs


def rest_columns(ground, places):
    """The table with the rests of places as columns, in whole numbers, and the numbers below them."""
    rests = rests_of(ground, places)
    table = [[wholes[k] for wholes, _ in rests] for k in range(len(ground.places))]
    return table, [below for _, below in rests]


def taken_of(ground, places):
    """The ascending indexes of the places that are taken in their order."""
    table, _ = rest_columns(ground, places)
    return stairs(table, len(places))[2]


def told_by_taken(ground, places):
    """The indexes of the taken places, and for each place its weights, one for each taken one."""
    table, belows = rest_columns(ground, places)
    rows, taken, last = full_stairs(table, len(places))
    weights = []
    for k, below in enumerate(belows):
        pairs = [(row[k] * belows[at], below * last) for row, at in zip(rows, taken)]
        weights.append([reduced(above, own) for above, own in pairs])
    return taken, weights


def row_with_numbers(many, numbers):
    """The row for so many unknowns with these numbers at places, 0 elsewhere."""
    row = []
    for unknown in range(many):
        growths = [growth for own, growth in numbers if own == unknown]
        item = [ZERO] * (1 + max(growths, default=-1))
        for growth in growths:
            item[growth] = numbers[(unknown, growth)]
        row.append(trimmed(item))
    return tuple(row)


def tie_at(ground, places, taken, weights, at):
    """The tie with 1 at a place that is not taken, and numbers, besides, at taken ones alone."""
    numbers = {places[k]: negative(weight) for k, weight in zip(taken, weights[at])}
    numbers[places[at]] = ONE
    return row_with_numbers(len(ground.orders), numbers)


def base_of(ground, places):
    """The ties with 1 at the places that are not taken, in their order."""
    taken, weights = told_by_taken(ground, places)
    return [tie_at(ground, places, taken, weights, at) for at in range(len(places)) if at not in taken]
