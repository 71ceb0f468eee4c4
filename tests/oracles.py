"""What the document says, worked out by plain search and with Python's fractions, not by the package."""

from fractions import Fraction
from itertools import combinations, permutations, product


def sign_of(order):
    """The sign of a permutation."""
    swaps = sum(1 for i, j in combinations(range(len(order)), 2) if order[i] > order[j])
    return -1 if swaps % 2 else 1


def numbers_of(polynomial):
    return [Fraction(above, below) for above, below in polynomial]


def cut(numbers):
    """A list of numbers without noughts at the end."""
    numbers = list(numbers)
    while numbers and numbers[-1] == 0:
        numbers.pop()
    return numbers


def polynomial_of(numbers):
    """The polynomial of the document with these numbers."""
    return tuple((number.numerator, number.denominator) for number in map(Fraction, cut(numbers)))


def plus(one, other):
    many = max(len(one), len(other))
    return cut([
        (one[k] if k < len(one) else 0) + (other[k] if k < len(other) else 0) for k in range(many)
    ])


def times(one, other):
    if not one or not other:
        return []
    numbers = [Fraction(0)] * (len(one) + len(other) - 1)
    for i, left in enumerate(one):
        for j, right in enumerate(other):
            numbers[i + j] += left * right
    return cut(numbers)


def table_numbers(table):
    return [[numbers_of(item) for item in row] for row in table]


def determinant(model):
    """The determinant by the sum over all permutations, as a polynomial of the document."""
    table, total = table_numbers(model), []
    for order in permutations(range(len(table))):
        term = [Fraction(sign_of(order))]
        for i, j in enumerate(order):
            term = times(term, table[i][j])
        total = plus(total, term)
    return polynomial_of(total)


def number_determinant(numbers):
    """The determinant of a table of fractions of the document, as a Fraction."""
    total = Fraction(0)
    for order in permutations(range(len(numbers))):
        term = Fraction(sign_of(order))
        for i, j in enumerate(order):
            term *= Fraction(*numbers[i][j])
        total += term
    return total


def row_product(row, table):
    """The sum of the rows of a table, each times its polynomial in the row, as polynomials."""
    factors, rows = [numbers_of(item) for item in row], table_numbers(table)
    sums = []
    for j in range(len(table[0])):
        total = []
        for i, factor in enumerate(factors):
            total = plus(total, times(factor, rows[i][j]))
        sums.append(polynomial_of(total))
    return tuple(sums)


def table_product(one, other):
    return tuple(row_product(row, other) for row in one)


def turned(table):
    return tuple(zip(*table))


def orders(model):
    return tuple(tuple(len(item) - 1 if item else None for item in row) for row in model)


def all_choices(pattern):
    """All choices, ascending."""
    many = range(len(pattern))
    return [
        order for order in permutations(many) if all(pattern[i][order[i]] is not None for i in many)
    ]


def weight(pattern, choice):
    return sum(pattern[i][j] for i, j in enumerate(choice))


def heaviest(pattern):
    """The heaviest weight and the tuple of the heaviest choices; (None, ())."""
    choices = all_choices(pattern)
    if not choices:
        return None, ()
    most = max(weight(pattern, choice) for choice in choices)
    return most, tuple(choice for choice in choices if weight(pattern, choice) == most)


def is_short_lot(pattern, lot):
    """Whether this is an ascending tuple of equations that mention fewer unknowns than they are."""
    if not isinstance(lot, tuple) or list(lot) != sorted(set(lot)):
        return False
    if not all(type(k) is int and 0 <= k < len(pattern) for k in lot):
        return False
    told = {j for k in lot for j, order in enumerate(pattern[k]) if order is not None}
    return len(told) < len(lot)


def room(pattern, equation, unknown):
    """The room of a spot by its first meaning: the greatest order that keeps the heaviest weight; None."""
    most, _ = heaviest(pattern)
    rest = [
        sum(pattern[i][j] for i, j in enumerate(order) if i != equation)
        for order in permutations(range(len(pattern)))
        if order[equation] == unknown
        and all(pattern[i][j] is not None for i, j in enumerate(order) if i != equation)
    ]
    return most - max(rest) if rest else None


def are_offsets(pattern, pair):
    grown, settled = pair
    many = range(len(pattern))
    return min(grown) >= 0 and min(settled) >= 0 and all(
        pattern[i][j] is None or settled[j] - grown[i] >= pattern[i][j] for i in many for j in many
    )


def best_offsets(pattern, limit):
    """All best offsets with no c above a limit (for each c there is one least d)."""
    many, most, found = range(len(pattern)), heaviest(pattern)[0], []
    for grown in product(range(limit + 1), repeat=len(pattern)):
        settled = tuple(
            max(grown[i] + pattern[i][j] for i in many if pattern[i][j] is not None) for j in many
        )
        if sum(settled) - sum(grown) == most:
            found.append((grown, settled))
    return found


def least_offsets(pattern):
    """The least of all best offsets: no c in it is above the sum of the greatest orders but one."""
    greatest = max([order for row in pattern for order in row if order is not None])
    found = best_offsets(pattern, max(1, (len(pattern) - 1) * greatest))
    least = tuple(tuple(min(column) for column in zip(*side)) for side in zip(*found))
    assert least in found
    return least


def tight(pattern, pair):
    grown, settled = pair
    many = range(len(pattern))
    return tuple((i, j) for i in many for j in many if pattern[i][j] == settled[j] - grown[i])


def used_spots(pattern):
    return tuple(sorted({(i, j) for choice in heaviest(pattern)[1] for i, j in enumerate(choice)}))


def loose_blocks(pattern):
    """The blocks as pairs of ascending tuples, by their least equations."""
    lots = [({i}, set()) for i in range(len(pattern))]
    for i, j in used_spots(pattern):
        joined = [lot for lot in lots if i in lot[0] or j in lot[1]]
        lots = [lot for lot in lots if lot not in joined]
        equations, unknowns = {i}, {j}
        for lot in joined:
            equations, unknowns = equations | lot[0], unknowns | lot[1]
        lots.append((equations, unknowns))
    return sorted((tuple(sorted(lot[0])), tuple(sorted(lot[1]))) for lot in lots)


def needs(pattern, lots):
    """For each of the blocks the set of the blocks that it needs, also through others."""
    spots = tight(pattern, least_offsets(pattern))
    many = range(len(lots))
    found = [
        {b for b in many if b != a and any(i in lots[a][0] and j in lots[b][1] for i, j in spots)}
        for a in many
    ]
    for _ in many:
        found = [lot.union(*[found[b] for b in lot]) for lot in found]
    return found


def blocks(pattern):
    """The blocks in the order of solving, and what each one needs."""
    lots = loose_blocks(pattern)
    needed, order = needs(pattern, lots), []
    while len(order) < len(lots):
        ready = [k for k in range(len(lots)) if k not in order and needed[k] <= set(order)]
        order.append(min(ready, key=lambda k: lots[k][0][0]))
    return (
        tuple(lots[k] for k in order),
        [tuple(sorted(order.index(other) for other in needed[k])) for k in order],
    )


def free_starts(model):
    """The degree of the determinant; None."""
    told = determinant(model)
    return len(told) - 1 if told else None


def is_sound(model):
    starts = free_starts(model)
    return starts is not None and starts == heaviest(orders(model))[0]


def adjoint(table):
    """The table with which a table makes its determinant times the unit table."""
    many = range(len(table))
    rows = []
    for j in many:
        row = []
        for i in many:
            minor = tuple(tuple(table[a][b] for b in many if b != j) for a in many if a != i)
            told = numbers_of(determinant(minor)) if minor else [Fraction(1)]
            row.append(polynomial_of([number * (-1) ** (i + j) for number in told]))
        rows.append(tuple(row))
    return tuple(rows)


def divided(numbers, bottom):
    """The numbers of the quotient and of the rest of two polynomials."""
    rest = cut(numbers)
    found = [Fraction(0)] * max(0, len(rest) - len(bottom) + 1)
    while len(rest) >= len(bottom):
        shift, factor = len(rest) - len(bottom), rest[-1] / bottom[-1]
        found[shift] = factor
        rest = cut([number - (factor * bottom[k - shift] if k >= shift else 0) for k, number in enumerate(rest)])
    return found, rest


def paper(model, row):
    """The row v with v times a solvable model as the row, by the adjoint table; None."""
    bottom, found = numbers_of(determinant(model)), []
    for item in row_product(row, adjoint(model)):
        told, rest = divided(numbers_of(item), bottom)
        if rest:
            return None
        found.append(polynomial_of(told))
    return tuple(found)


def factor(model, other):
    """The table with which a solvable model makes another one; None."""
    rows = [paper(model, row) for row in other]
    return None if None in rows else tuple(rows)


def led_on(bottom, told, many):
    """The growths below `many` of a course that a polynomial leads to nought, by as many as its degree."""
    course, degree = list(told), len(bottom) - 1
    while len(course) < many:
        later = course[len(course) - degree:]
        course.append(-sum((number * own for number, own in zip(bottom, later)), Fraction(0)) / bottom[-1])
    return course[:many]


def led_at(row, courses, growth):
    """A growth of the course to which a row leads courses of Fractions."""
    return sum(
        (number * course[growth + k]
         for item, course in zip(row, courses) for k, number in enumerate(numbers_of(item))), Fraction(0),
    )


def further(model, motion, many):
    """The growths below `many` of the unknowns in a motion, as point 19 leads them on."""
    bottom = numbers_of(determinant(model))
    return [led_on(bottom, numbers_of(course), many) for course in motion]


def is_motion(model, motion):
    """Point 19 word for word; the motion is a tuple of as many tuples of fractions as it has to be."""
    starts = free_starts(model)
    longest = max(len(item) for row in model for item in row)
    courses = further(model, motion, starts + longest)
    return all(led_at(row, courses, growth) == 0 for row in model for growth in range(starts))


def spanning_motions(model, many):
    """Motions, the growths below `many` of the unknowns in each, of which all others are sums of multiples.

    The adjoint table makes a motion of any courses that the determinant leads to nought, and
    makes each motion so.
    """
    bottom, table = numbers_of(determinant(model)), adjoint(model)
    degree, longest = len(bottom) - 1, max(len(item) for row in table for item in row)
    heads = [led_on(bottom, [Fraction(int(k == at)) for k in range(degree)], many + longest) for at in range(degree)]
    return [
        [[led_at((row[i],), (head,), growth) for growth in range(many)] for row in table]
        for i in range(len(model)) for head in heads
    ]


class Space:
    """What all motions of a solvable model let read off at places."""

    def __init__(self, model, many):
        self.starts = free_starts(model)
        self.motions = spanning_motions(model, many)

    def vector(self, place):
        return [motion[place[0]][place[1]] for motion in self.motions]

    def rank(self, places):
        return rank([self.vector(place) for place in places])

    def taken(self, places):
        """The indexes of the places that are taken by greed."""
        found = []
        for k, place in enumerate(places):
            if self.rank([places[at] for at in found] + [place]) > len(found):
                found.append(k)
        return found


def rank(vectors):
    """How many of the vectors are independent."""
    rows = []
    for vector in vectors:
        vector = [Fraction(number) for number in vector]
        for head, row in rows:
            worth = vector[head] / row[head]
            vector = [own - worth * other for own, other in zip(vector, row)]
        heads = [k for k, number in enumerate(vector) if number != 0]
        if heads:
            rows.append((heads[0], vector))
    return len(rows)


def read_off(row, numbers):
    """A row read off numbers at places, a dict."""
    return sum(
        (Fraction(*number) * numbers.get((unknown, growth), 0)
         for unknown, item in enumerate(row) for growth, number in enumerate(item)), Fraction(0),
    )


def forced_at(row, forcings, growth):
    """A growth of the course to which a row leads forcings that are told by finitely many growths."""
    return sum(
        (Fraction(*number) * Fraction(*forcing[growth + k])
         for item, forcing in zip(row, forcings) for k, number in enumerate(item) if growth + k < len(forcing)),
        Fraction(0),
    )


def places_of(row):
    """The places at which a row has numbers other than 0, ascending."""
    return [
        (unknown, growth) for unknown, item in enumerate(row) for growth, number in enumerate(item) if number[0] != 0
    ]
