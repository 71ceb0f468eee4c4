"""State lots: how places are told by the places of a lot."""

from hiddenties.errors import NotAState
from hiddenties.fracs import sum_of_products
from hiddenties.greed import told_by_taken


def weights_on(ground, lot, places):
    """For each place its weights, one for each place of a lot, which has to be a state lot."""
    lot = list(lot)
    taken, weights = told_by_taken(ground, lot + list(places))
    if len(lot) != len(ground.places) or taken != list(range(len(lot))):
        raise NotAState()
    return weights[len(lot):]


def weighed(weights, numbers):
    """The sum of the numbers, each times its weight."""
    return sum_of_products(list(zip(weights, numbers)))


def numbers_by(ground, lot, numbers):
    """The numbers at the places of the plain model in the motion with these numbers at a state lot."""
    return [weighed(weights, numbers) for weights in weights_on(ground, lot, ground.places)]
