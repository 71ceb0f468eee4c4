"""Certificates: of two claims that exclude one another the one that is so, with a paper for the checker."""

from hiddenties.alikes import change_between, parting_motion
from hiddenties.checks import ground_of
from hiddenties.choices import heaviest_choice, short_lot
from hiddenties.courses import motion_from
from hiddenties.greed import told_by_taken
from hiddenties.heavy import weight_along
from hiddenties.mended import mending_table
from hiddenties.models import is_sound, loose_row
from hiddenties.modes import lost_tie
from hiddenties.offsets import least_offsets
from hiddenties.states import tie_on
from hiddenties.sures import weak_model
from hiddenties.ties import breaking_motion, tie_paper


def certify_weight(pattern):
    """The heaviest weight, or that there is no choice."""
    choice = heaviest_choice(pattern)
    if choice is None:
        return ("no choice", pattern), short_lot(pattern)
    return ("weight", pattern, weight_along(pattern, choice)), (choice, least_offsets(pattern))


def certify_sure(pattern):
    """Whether the pattern is sure."""
    model = weak_model(pattern)
    if model is None:
        return ("sure", pattern), ()
    return ("not sure", pattern), model


def certify_solvable(model):
    """Whether the model is solvable."""
    row = loose_row(model)
    if row is None:
        return ("solvable", model), ()
    return ("loose", model), row


def certify_sound(model):
    """Whether the model is sound."""
    table = mending_table(model)
    if is_sound(model):
        return ("sound", model), ()
    return ("weak", model), table


def certify_tie(model, row):
    """Whether the row is a tie of the model."""
    paper = tie_paper(model, row)
    if paper is not None:
        return ("tie", model, row), paper
    return ("no tie", model, row), breaking_motion(model, row)


def motion_off(ground, lot):
    """A motion, not all nought, with 0 at each place of a free lot; None for a state lot."""
    places = list(lot) + list(ground.places)
    taken, weights = told_by_taken(ground, places)
    beyond = [at for at, k in enumerate(taken) if k >= len(lot)]
    if len(beyond) == 0:
        return None
    # With 1 at one of the places that make a state lot of this one, and 0 at the others.
    return motion_from(ground, [own[beyond[0]] for own in weights[len(lot):]])


def certify_states(model, lot):
    """Whether the lot is a state lot."""
    tie = tie_on(model, lot)
    if tie is not None:
        return ("no states", model, lot), tie
    motion = motion_off(ground_of(model), lot)
    if motion is not None:
        return ("no states", model, lot), motion
    return ("states", model, lot), ()


def certify_alike(model, other):
    """Whether both have the same motions."""
    table = change_between(model, other)
    if table is not None:
        return ("alike", model, other), table
    return ("unlike", model, other), parting_motion(model, other)


def certify_change(model, other, lot):
    """Whether the change from the first model to the other one carries over at the lot."""
    tie = lost_tie(model, other, lot)
    if tie is None:
        return ("carries", model, other, lot), ()
    return ("loses", model, other, lot), tie
