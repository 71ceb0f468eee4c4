"""Modes: which numbers stay right when one model is changed for another one."""

from hiddenties.checks import check_lot, check_motion, check_sizes, ground_of, grounds_with
from hiddenties.courses import further, numbers_at
from hiddenties.greed import base_of, tie_at, told_by_taken
from hiddenties.grounds import is_tie_of
from hiddenties.papers import papers_of
from hiddenties.polytables import table_times
from hiddenties.starts import Start


def lost_tie(model, other, lot):
    """The first tie of the other one's base on the lot that is no tie of the first one; None."""
    ground, beside = grounds_with(model, other, lot)
    for row in base_of(beside, lot):
        if not is_tie_of(ground, row):
            return row
    return None


def carries_over(model, other, lot):
    """Whether each motion of the first one has its numbers at the lot in some motion of the other one, too."""
    return lost_tie(model, other, lot) is None


def carries_driven(model, other, lot):
    """Whether for all forcings each solution of the first one goes on in some solution of the other one."""
    _, beside = grounds_with(model, other, lot)
    base = tuple(base_of(beside, lot))
    return table_times(papers_of(other, base), model) == base


def kept_places(model, other, lot):
    """The lot of the places that are kept, gone through from the first one on, so that the change carries over."""
    ground, beside = grounds_with(model, other, lot)
    taken, weights = told_by_taken(beside, lot)
    # What is not kept is told by what was taken before, so it may stay where ties are looked for.
    return tuple([
        place for at, place in enumerate(lot)
        if at in taken or is_tie_of(ground, tie_at(beside, lot, taken, weights, at))
    ])


def start_beyond(model, motion, other, lot):
    """The numbers of a motion at a lot as a start of the other model."""
    ground = ground_of(model)
    check_motion(ground, motion)
    beside = ground_of(other)
    check_lot(lot, len(model))
    check_sizes(model, other)
    many = 1 + max([growth for _, growth in lot], default=0)
    return Start(other, beside, lot, numbers_at(further(ground, motion, many), lot), ())


def goes_on(model, motion, other, lot):
    """`none`, `one` or `many`: how many motions of the other one have the motion's numbers at the lot."""
    return start_beyond(model, motion, other, lot).word()


def gone_on(model, motion, other, lot):
    """The one motion of the other one that has the motion's numbers at the lot; None."""
    start = start_beyond(model, motion, other, lot)
    if start.word() != "one":
        return None
    return start.courses(len(start.ground.places))
