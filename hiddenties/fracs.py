"""Fractions as reduced pairs of whole numbers, the second one above 0."""

from math import gcd, lcm

ZERO = (0, 1)
ONE = (1, 1)


def reduced(above, below):
    """The fraction above / below; below is not 0."""
    common = gcd(above, below)
    if below < 0:
        common = -common
    return (above // common, below // common)


def common_below(fractions):
    """The least number from 1 on by which all the fractions become whole."""
    below = 1
    for fraction in fractions:
        below = lcm(below, fraction[1])
    return below


def wholes_of(fractions, below):
    """The fractions times a number by which all of them become whole."""
    return [above * (below // own) for above, own in fractions]


def sum_of_products(pairs):
    """The sum of the products of the pairs of fractions."""
    products = [(one[0] * other[0], one[1] * other[1]) for one, other in pairs]
    below = common_below(products)
    return reduced(sum(wholes_of(products, below)), below)


def negative(fraction):
    """The fraction times -1."""
    return (-fraction[0], fraction[1])


def difference(one, other):
    """One fraction less another one."""
    return sum_of_products([(one, ONE), (negative(other), ONE)])
