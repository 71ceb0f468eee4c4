"""Ties: rows that lead all motions of a model to nought."""

from hiddenties.checks import check_motion, check_number, check_orders, check_row, ground_of
from hiddenties.courses import breaking_from, further
from hiddenties.greed import base_of
from hiddenties.grounds import is_tie_of, row_rest
from hiddenties.models import forced_growth
from hiddenties.papers import paper_of


def is_tie(model, row):
    """Whether the row leads all motions of the model to nought."""
    ground = ground_of(model)
    check_row(row, len(model))
    return is_tie_of(ground, row)


def tie_paper(model, row):
    """The only row v with v times the model as the row; None if the row is no tie."""
    ground = ground_of(model)
    check_row(row, len(model))
    if not is_tie_of(ground, row):
        return None
    return paper_of(model, row)


def breaking_motion(model, row):
    """Any motion that the row leads to a course whose growth 0 is not 0; None for a tie."""
    ground = ground_of(model)
    check_row(row, len(model))
    return breaking_from(ground, row_rest(ground, row))


def led_growth(model, row, motion, order):
    """A growth of the course to which the row leads the motion."""
    ground = ground_of(model)
    check_row(row, len(model))
    check_motion(ground, motion)
    check_number(order, 0)
    longest = max([len(item) for item in row])
    return forced_growth(row, further(ground, motion, order + longest), order)


def ties_up_to(model, orders):
    """The base in stairs of the ties up to orders, each order being a number or None."""
    ground = ground_of(model)
    check_orders(orders, len(model))
    places = []
    for unknown, order in enumerate(orders):
        if order is not None:
            places.extend([(unknown, growth) for growth in range(order + 1)])
    # Gone through from the last place on, each tie begins with its own place.
    base = base_of(ground, places[::-1])
    return tuple(base[::-1])
