"""What the document says, worked out by plain search and with Python's fractions, not by the package."""

from fractions import Fraction
from itertools import combinations, permutations, product


def sign_of(order):
    """The sign of a permutation."""
    swaps = sum(1 for i, j in combinations(range(len(order)), 2) if order[i] > order[j])
    return -1 if swaps % 2 else 1


def numbers_of(polynomial):
    return [Fraction(above, below) for above, below in polynomial]


def cut(numbers):
    """A list of numbers without noughts at the end."""
    numbers = list(numbers)
    while numbers and numbers[-1] == 0:
        numbers.pop()
    return numbers


def polynomial_of(numbers):
    """The polynomial of the document with these numbers."""
    return tuple((number.numerator, number.denominator) for number in map(Fraction, cut(numbers)))


def plus(one, other):
    many = max(len(one), len(other))
    return cut([
        (one[k] if k < len(one) else 0) + (other[k] if k < len(other) else 0) for k in range(many)
    ])


def times(one, other):
    if not one or not other:
        return []
    numbers = [Fraction(0)] * (len(one) + len(other) - 1)
    for i, left in enumerate(one):
        for j, right in enumerate(other):
            numbers[i + j] += left * right
    return cut(numbers)


def table_numbers(table):
    return [[numbers_of(item) for item in row] for row in table]


def determinant(model):
    """The determinant by the sum over all permutations, as a polynomial of the document."""
    table, total = table_numbers(model), []
    for order in permutations(range(len(table))):
        term = [Fraction(sign_of(order))]
        for i, j in enumerate(order):
            term = times(term, table[i][j])
        total = plus(total, term)
    return polynomial_of(total)


def number_determinant(numbers):
    """The determinant of a table of fractions of the document, as a Fraction."""
    total = Fraction(0)
    for order in permutations(range(len(numbers))):
        term = Fraction(sign_of(order))
        for i, j in enumerate(order):
            term *= Fraction(*numbers[i][j])
        total += term
    return total


def row_product(row, table):
    """The sum of the rows of a table, each times its polynomial in the row, as polynomials."""
    factors, rows = [numbers_of(item) for item in row], table_numbers(table)
    sums = []
    for j in range(len(table[0])):
        total = []
        for i, factor in enumerate(factors):
            total = plus(total, times(factor, rows[i][j]))
        sums.append(polynomial_of(total))
    return tuple(sums)


def table_product(one, other):
    return tuple(row_product(row, other) for row in one)


def turned(table):
    return tuple(zip(*table))


def orders(model):
    return tuple(tuple(len(item) - 1 if item else None for item in row) for row in model)


def all_choices(pattern):
    """All choices, ascending."""
    many = range(len(pattern))
    return [
        order for order in permutations(many) if all(pattern[i][order[i]] is not None for i in many)
    ]


def weight(pattern, choice):
    return sum(pattern[i][j] for i, j in enumerate(choice))


def heaviest(pattern):
    """The heaviest weight and the tuple of the heaviest choices; (None, ())."""
    choices = all_choices(pattern)
    if not choices:
        return None, ()
    most = max(weight(pattern, choice) for choice in choices)
    return most, tuple(choice for choice in choices if weight(pattern, choice) == most)


def is_short_lot(pattern, lot):
    """Whether this is an ascending tuple of equations that mention fewer unknowns than they are."""
    if not isinstance(lot, tuple) or list(lot) != sorted(set(lot)):
        return False
    if not all(type(k) is int and 0 <= k < len(pattern) for k in lot):
        return False
    told = {j for k in lot for j, order in enumerate(pattern[k]) if order is not None}
    return len(told) < len(lot)


def room(pattern, equation, unknown):
    """The room of a spot by its first meaning: the greatest order that keeps the heaviest weight; None."""
    most, _ = heaviest(pattern)
    rest = [
        sum(pattern[i][j] for i, j in enumerate(order) if i != equation)
        for order in permutations(range(len(pattern)))
        if order[equation] == unknown
        and all(pattern[i][j] is not None for i, j in enumerate(order) if i != equation)
    ]
    return most - max(rest) if rest else None


def are_offsets(pattern, pair):
    grown, settled = pair
    many = range(len(pattern))
    return min(grown) >= 0 and min(settled) >= 0 and all(
        pattern[i][j] is None or settled[j] - grown[i] >= pattern[i][j] for i in many for j in many
    )


def best_offsets(pattern, limit):
    """All best offsets with no c above a limit (for each c there is one least d)."""
    many, most, found = range(len(pattern)), heaviest(pattern)[0], []
    for grown in product(range(limit + 1), repeat=len(pattern)):
        settled = tuple(
            max(grown[i] + pattern[i][j] for i in many if pattern[i][j] is not None) for j in many
        )
        if sum(settled) - sum(grown) == most:
            found.append((grown, settled))
    return found


def least_offsets(pattern):
    """The least of all best offsets: no c in it is above the sum of the greatest orders but one."""
    greatest = max([order for row in pattern for order in row if order is not None])
    found = best_offsets(pattern, max(1, (len(pattern) - 1) * greatest))
    least = tuple(tuple(min(column) for column in zip(*side)) for side in zip(*found))
    assert least in found
    return least


def tight(pattern, pair):
    grown, settled = pair
    many = range(len(pattern))
    return tuple((i, j) for i in many for j in many if pattern[i][j] == settled[j] - grown[i])


def used_spots(pattern):
    return tuple(sorted({(i, j) for choice in heaviest(pattern)[1] for i, j in enumerate(choice)}))


def loose_blocks(pattern):
    """The blocks as pairs of ascending tuples, by their least equations."""
    lots = [({i}, set()) for i in range(len(pattern))]
    for i, j in used_spots(pattern):
        joined = [lot for lot in lots if i in lot[0] or j in lot[1]]
        lots = [lot for lot in lots if lot not in joined]
        equations, unknowns = {i}, {j}
        for lot in joined:
            equations, unknowns = equations | lot[0], unknowns | lot[1]
        lots.append((equations, unknowns))
    return sorted((tuple(sorted(lot[0])), tuple(sorted(lot[1]))) for lot in lots)


def needs(pattern, lots):
    """For each of the blocks the set of the blocks that it needs, also through others."""
    spots = tight(pattern, least_offsets(pattern))
    many = range(len(lots))
    found = [
        {b for b in many if b != a and any(i in lots[a][0] and j in lots[b][1] for i, j in spots)}
        for a in many
    ]
    for _ in many:
        found = [lot.union(*[found[b] for b in lot]) for lot in found]
    return found


def blocks(pattern):
    """The blocks in the order of solving, and what each one needs."""
    lots = loose_blocks(pattern)
    needed, order = needs(pattern, lots), []
    while len(order) < len(lots):
        ready = [k for k in range(len(lots)) if k not in order and needed[k] <= set(order)]
        order.append(min(ready, key=lambda k: lots[k][0][0]))
    return (
        tuple(lots[k] for k in order),
        [tuple(sorted(order.index(other) for other in needed[k])) for k in order],
    )


def free_starts(model):
    """The degree of the determinant; None."""
    told = determinant(model)
    return len(told) - 1 if told else None


def is_sound(model):
    starts = free_starts(model)
    return starts is not None and starts == heaviest(orders(model))[0]
