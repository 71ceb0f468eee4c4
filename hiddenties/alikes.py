"""Alike models: models with the same motions, the factors between them, and what parts them."""

from hiddenties.checks import grounds_of
from hiddenties.courses import breaking_from
from hiddenties.grounds import is_tie_of, row_rest
from hiddenties.papers import papers_of


def are_ties(ground, rows):
    """Whether all rows lead all motions to nought."""
    return all([is_tie_of(ground, row) for row in rows])


def are_alike(model, other):
    """Whether both have the same motions."""
    ground, beside = grounds_of(model, other)
    return ground.plain == beside.plain


def is_within(model, other):
    """Whether all motions of the model are motions of the other one."""
    ground, _ = grounds_of(model, other)
    return are_ties(ground, other)


def factor_between(model, other):
    """The only table U with the other one as U times the model; None."""
    ground, _ = grounds_of(model, other)
    if not are_ties(ground, other):
        return None
    return papers_of(model, other)


def change_between(model, other):
    """The only table U with the other one as U times the model, if both have the same motions; None."""
    ground, beside = grounds_of(model, other)
    if ground.plain != beside.plain:
        return None
    return papers_of(model, other)


def parting_from(ground, rows):
    """Any motion that one of the rows does not lead to nought; None."""
    for row in rows:
        motion = breaking_from(ground, row_rest(ground, row))
        if motion is not None:
            return motion
    return None


def parting_motion(model, other):
    """Any pair (INDEX, MOTION) of a motion of one of both models that is none of the other one; None."""
    ground, beside = grounds_of(model, other)
    motion = parting_from(ground, other)
    if motion is not None:
        return (0, motion)
    motion = parting_from(beside, model)
    if motion is not None:
        return (1, motion)
    return None
