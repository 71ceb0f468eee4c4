"""Square tables of polynomials: orders, leading numbers, products, determinants and loose rows."""

from hiddenties.fracs import common_below, reduced, wholes_of
from hiddenties.heavy import heaviest_of
from hiddenties.polys import (
    UNIT, added, multiplied, number_at, polynomial_over, scaled, trimmed, value_at, wholes_through,
)
from hiddenties.tables import cofactors, common_divisor, null_row, stairs, whole_determinant


def orders_of(table):
    """The pattern of a table."""
    return tuple([tuple([len(item) - 1 if len(item) > 0 else None for item in row]) for row in table])


def turned(table):
    """The table with its columns as rows."""
    return tuple([tuple([row[k] for row in table]) for k in range(len(table))])


def unit_table(many):
    """The table of so many rows with 1 where row and column are the same."""
    return tuple([tuple([UNIT if k == at else () for k in range(many)]) for at in range(many)])


def row_times(row, table):
    """The sum of the rows of a table, each times the polynomial that the row has for it."""
    sums = [()] * len(table)
    for factor, other in zip(row, table):
        if len(factor) > 0:
            sums = [added(total, multiplied(factor, item)) for total, item in zip(sums, other)]
    return tuple(sums)


def table_times(one, other):
    """The product of two tables."""
    return tuple([row_times(row, other) for row in one])


def leading_table(table, offsets):
    """The number of each polynomial at the power that the offsets let there."""
    grown, settled = offsets
    leading = []
    for i, row in enumerate(table):
        leading.append(tuple([number_at(item, settled[j] - grown[i]) for j, item in enumerate(row)]))
    return tuple(leading)


def row_below(row):
    """The least number from 1 on by which all polynomials of a row become whole."""
    return common_below([number for item in row for number in item])


def whole_rows(table):
    """The rows, each times the number by which it becomes whole, and these numbers."""
    belows = [row_below(row) for row in table]
    return [[wholes_of(item, below) for item in row] for row, below in zip(table, belows)], belows


def values_at(wholes, at):
    """The table of the values where s is a whole number."""
    return [[value_at(item, at) for item in row] for row in wholes]


def determinant(table):
    """The determinant of a table, read off its values at as many numbers as its degree asks for."""
    degree = heaviest_of(orders_of(table))
    if degree is None:
        return ()
    wholes, belows = whole_rows(table)
    values = [whole_determinant(values_at(wholes, at)) for at in range(degree + 1)]
    whole = 1
    for below in belows:
        whole = whole * below
    return polynomial_over(wholes_through(values), whole)


def is_regular(numbers):
    """Whether a square table of fractions has a determinant other than 0."""
    return whole_determinant([wholes_of(row, common_below(row)) for row in numbers]) != 0


def null_weights(numbers):
    """Fractions, not all 0, with which the rows of a square table of fractions sum to noughts; None."""
    belows = [common_below(row) for row in numbers]
    weights = null_row([wholes_of(row, below) for row, below in zip(numbers, belows)])
    if weights is None:
        return None
    return [reduced(weight * below, 1) for weight, below in zip(weights, belows)]


def degree_bound(wholes):
    """A number that no product along a choice of rows and columns has a degree above."""
    return sum([max([0] + [len(item) - 1 for item in row]) for row in wholes])


def loose_try(wholes, at):
    """What may be a loose row, as told by the values where s is a whole number, of whole numbers.

    It is one exactly if as many rows are independent there as are where s is no number.
    """
    _, places, columns, _ = stairs(values_at(wholes, at), len(wholes))
    picked = places[:len(columns) + 1]
    part = [[wholes[k][column] for column in columns] for k in picked]
    values = [cofactors(values_at(part, point)) for point in range(degree_bound(part) + 1)]
    row = [()] * len(wholes)
    for k, place in enumerate(picked):
        row[place] = trimmed([(whole, 1) for whole in wholes_through([column[k] for column in values])])
    return tuple(row)


def loose_of(table):
    """Polynomials, not all nought, with which the rows of a table sum to noughts.

    The table has nought as its determinant.
    """
    wholes, belows = whole_rows(table)
    at = 0
    while True:
        factors = loose_try(wholes, at)
        row = tuple([scaled(factor, (below, 1)) for factor, below in zip(factors, belows)])
        if max([len(item) for item in row_times(row, table)]) == 0:
            return plain_row(row)
        at = at + 1


def row_scale(numbers):
    """The fraction that makes whole numbers without a common divisor of fractions, not all 0."""
    below = common_below(numbers)
    common = common_divisor(wholes_of(numbers, below))
    return reduced(below, common)


def plain_row(row):
    """A row, not all nought, times the fraction that makes its numbers whole and small."""
    scale = row_scale([number for item in row for number in item])
    return tuple([scaled(item, scale) for item in row])
