"""Polynomials as tuples of fractions, the lowest power first, without a 0 at the end."""

from hiddenties.fracs import ZERO, common_below, reduced, wholes_of
from hiddenties.tables import common_divisor, without_common

UNIT = ((1, 1),)


def trimmed(fractions):
    """The polynomial of these numbers."""
    many = len(fractions)
    while many > 0 and fractions[many - 1][0] == 0:
        many = many - 1
    return tuple(fractions[:many])


def polynomial_over(wholes, below):
    """The polynomial of the whole numbers, each over the same number."""
    return trimmed([reduced(whole, below) for whole in wholes])


def added(one, other):
    """The sum of two polynomials."""
    below = common_below(one + other)
    sums = [0] * max(len(one), len(other))
    for polynomial in (one, other):
        for k, whole in enumerate(wholes_of(polynomial, below)):
            sums[k] = sums[k] + whole
    return polynomial_over(sums, below)


def multiplied(one, other):
    """The product of two polynomials."""
    if len(one) == 0 or len(other) == 0:
        return ()
    one_below, other_below = common_below(one), common_below(other)
    others = wholes_of(other, other_below)
    sums = [0] * (len(one) + len(other) - 1)
    for i, whole in enumerate(wholes_of(one, one_below)):
        for j, worth in enumerate(others):
            sums[i + j] = sums[i + j] + whole * worth
    return polynomial_over(sums, one_below * other_below)


def scaled(polynomial, fraction):
    """A polynomial times a fraction."""
    return multiplied(polynomial, trimmed((fraction,)))


def quotient(one, other):
    """The polynomial that makes one polynomial of another one, which is not nought; None."""
    one_below, other_below = common_below(one), common_below(other)
    rest, wholes = wholes_of(one, one_below), wholes_of(other, other_below)
    common = common_divisor(wholes)
    # If it divides at all, what has no common divisor leaves whole numbers (Gauss).
    divisor = without_common(wholes)
    degree = len(divisor) - 1
    found = [0] * max(0, len(rest) - degree)
    for k in reversed(range(len(found))):
        found[k], left = divmod(rest[k + degree], divisor[degree])
        if left != 0:
            return None
        for i, whole in enumerate(divisor):
            rest[k + i] = rest[k + i] - found[k] * whole
    if common_divisor(rest) != 0:
        return None
    return polynomial_over([whole * other_below for whole in found], one_below * common)


def raised(polynomial, times):
    """A polynomial times s ** times."""
    if len(polynomial) == 0:
        return ()
    return (ZERO,) * times + polynomial


def number_at(polynomial, power):
    """The number of a polynomial at a power, 0 where it has none."""
    if 0 <= power < len(polynomial):
        return polynomial[power]
    return ZERO


def value_at(wholes, at):
    """The value of a polynomial with whole numbers where s is a whole number."""
    value = 0
    for whole in reversed(wholes):
        value = value * at + whole
    return value


def wholes_through(values):
    """The whole numbers of the polynomial with these values at 0, 1, 2 and so on.

    It has whole numbers, and a degree below the number of values: so Newton's slopes are whole.
    """
    slopes = list(values)
    for k in range(1, len(slopes)):
        for i in reversed(range(k, len(slopes))):
            slopes[i] = (slopes[i] - slopes[i - 1]) // k
    wholes = []
    for k in reversed(range(len(slopes))):
        longer = [0] + wholes
        for i, whole in enumerate(wholes):
            longer[i] = longer[i] - k * whole
        longer[0] = longer[0] + slopes[k]
        wholes = longer
    return wholes
