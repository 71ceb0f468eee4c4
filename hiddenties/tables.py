"""Tables of whole numbers, eliminated without fractions (Bareiss): each division comes out even."""

from math import gcd


def row_with(rows, start, column):
    """The index of the first row, from one on, that has no 0 in a column; None."""
    for k in range(start, len(rows)):
        if rows[k][column] != 0:
            return k
    return None


def less_head(row, head, column, last):
    """The row, with 0 in the column, that a step makes of a row below its head."""
    worth, factor = row[column], head[column]
    return [(factor * own - worth * other) // last for own, other in zip(row, head)]


def stairs(table, width):
    """The rows of a table in stairs in the first columns, and how they came so.

    A tuple of the rows, the indexes that they had, the columns of the steps, and the sign
    of the exchanges.
    """
    rows = [list(row) for row in table]
    places = list(range(len(rows)))
    columns, sign, last = [], 1, 1
    for column in range(width):
        step = len(columns)
        at = row_with(rows, step, column)
        if at is None:
            continue
        if at != step:
            rows[step], rows[at] = rows[at], rows[step]
            places[step], places[at] = places[at], places[step]
            sign = -sign
        for k in range(step + 1, len(rows)):
            rows[k] = less_head(rows[k], rows[step], column, last)
        last = rows[step][column]
        columns.append(column)
    return rows, places, columns, sign


def full_stairs(table, width):
    """The rows of a table in stairs, with noughts above the steps, too.

    A tuple of the rows, the columns of the steps, and the number that stands at all steps.
    """
    rows = [list(row) for row in table]
    columns, last = [], 1
    for column in range(width):
        step = len(columns)
        at = row_with(rows, step, column)
        if at is None:
            continue
        rows[step], rows[at] = rows[at], rows[step]
        head = rows[step]
        rows = [head if k == step else less_head(row, head, column, last) for k, row in enumerate(rows)]
        last = head[column]
        columns.append(column)
    return rows, columns, last


def with_units(table):
    """The table, with the unit table to the right of it."""
    many = len(table)
    return [list(table[k]) + [0] * k + [1] + [0] * (many - k - 1) for k in range(many)]


def whole_determinant(table):
    """The determinant of a square table with rows."""
    many = len(table)
    rows, _, columns, sign = stairs(table, many)
    if len(columns) < many:
        return 0
    return sign * rows[many - 1][many - 1]


def null_row(table):
    """Whole numbers, not all 0, with which the rows of a square table sum to noughts; None."""
    many = len(table)
    rows, _, columns, _ = stairs(with_units(table), many)
    if len(columns) == many:
        return None
    return without_common(rows[len(columns)][many:])


def cofactors(table):
    """The signed parts of a table with one row more than columns, one for each row.

    With them its rows sum to noughts; all are 0 exactly if its columns are not independent.
    """
    many = len(table)
    rows, _, columns, sign = stairs(with_units(table), many - 1)
    if len(columns) < many - 1:
        return [0] * many
    return [sign * whole for whole in rows[many - 1][many - 1:]]


def common_divisor(wholes):
    """The greatest number that divides all the whole numbers; 0 if all are 0."""
    common = 0
    for whole in wholes:
        common = gcd(common, whole)
    return common


def without_common(wholes):
    """The whole numbers, not all 0, over what divides all of them."""
    common = common_divisor(wholes)
    return [whole // common for whole in wholes]
