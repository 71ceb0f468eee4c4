"""Motions: the courses that solve a model without forcings, told by as many growths as are free."""

from hiddenties.checks import check_motion, check_number, ground_of
from hiddenties.courses import further, is_motion_of, motion_from
from hiddenties.greed import taken_of
from hiddenties.lots import weights_on
from hiddenties.values import check_index


def is_motion(model, value):
    """Whether a value, whatever it is, is a motion of the model."""
    return is_motion_of(ground_of(model), value)


def free_of(ground):
    """The free places, ascending: taken from the last unknown to the first one."""
    many, found = len(ground.places), []
    for unknown in reversed(range(len(ground.orders))):
        # Once a growth of an unknown is not taken, none behind it is, so these are enough.
        places = found + [(unknown, growth) for growth in range(many - len(found))]
        found = [places[k] for k in taken_of(ground, places)]
    return tuple(sorted(found))


def free_places(model):
    """The ascending tuple of the places at which motions take any numbers, and are settled by them."""
    return free_of(ground_of(model))


def all_motions(model):
    """The tuple of the motions with 1 at one of the free places, in their order, and 0 at the others."""
    ground = ground_of(model)
    lot = free_of(ground)
    # With 1 at one place and 0 at the others, all numbers are the weights of this place.
    table = weights_on(ground, lot, ground.places)
    return tuple([motion_from(ground, [weights[k] for weights in table]) for k in range(len(lot))])


def growth_at(model, motion, unknown, order):
    """A growth of an unknown in a motion."""
    ground = ground_of(model)
    check_motion(ground, motion)
    check_index(unknown, len(model))
    check_number(order, 0)
    return further(ground, motion, order + 1)[unknown][order]


def grown(model, motion):
    """The motion, each course of it grown once."""
    ground = ground_of(model)
    check_motion(ground, motion)
    return tuple([course[1:] for course in further(ground, motion, len(ground.places) + 1)])
