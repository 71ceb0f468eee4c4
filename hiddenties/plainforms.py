"""The plain model with the same motions as a model: its rows, grown and mixed, in stairs.

Rows are spread by growths, then by unknowns: number j of growth k stands at k * n + j, so what is
last in the order of growths stands last.
"""

from math import gcd

from hiddenties.fracs import wholes_of
from hiddenties.polys import polynomial_over
from hiddenties.polytables import row_below
from hiddenties.tables import common_divisor, without_common


def spread(row, width):
    """The whole numbers of a row, times what makes them whole, spread over so many places."""
    many, below = len(row), row_below(row)
    wholes = [0] * width
    for unknown, item in enumerate(row):
        for growth, whole in enumerate(wholes_of(item, below)):
            wholes[growth * many + unknown] = whole
    return wholes


def last_place(wholes):
    """Where the last number other than 0 stands; None."""
    for place in reversed(range(len(wholes))):
        if wholes[place] != 0:
            return place
    return None


def without_place(row, head, place):
    """The row less so much of its head that 0 stands at a place, without a common divisor."""
    if row[place] == 0:
        return row
    common = gcd(row[place], head[place])
    worth, factor = row[place] // common, head[place] // common
    wholes = [factor * own - worth * other for own, other in zip(row, head)]
    if common_divisor(wholes) == 0:
        return wholes
    return without_common(wholes)


def closed_base(rows, many):
    """The base, by last places, of all that rows and what is grown of them make up to their width.

    Each row of the base has 0 at the last places of the others. What is below the greatest growth
    is grown as soon as it is found, so what only mixing shows is grown, too.
    """
    base, waiting = {}, list(rows)
    while len(waiting) > 0:
        row = waiting.pop()
        for place in base:
            row = without_place(row, base[place], place)
        last = last_place(row)
        if last is None:
            continue
        for place in list(base):
            base[place] = without_place(base[place], row, last)
        base[last] = row
        if last + many < len(row):
            waiting.append([0] * many + row[:len(row) - many])
    return base


def gathered(wholes, many, last):
    """The row of polynomials that is spread so, over its number at its last place."""
    return tuple([polynomial_over(wholes[unknown::many], wholes[last]) for unknown in range(many)])


def plain_of(model):
    """The plain model with the same motions; None if the model is not solvable."""
    many = len(model)
    growths = max([len(item) for row in model for item in row])
    base = closed_base([spread(row, growths * many) for row in model], many)
    rows = []
    for unknown in range(many):
        places = [place for place in range(unknown, growths * many, many) if place in base]
        if len(places) == 0:
            return None
        rows.append(gathered(base[places[0]], many, places[0]))
    return tuple(rows)
