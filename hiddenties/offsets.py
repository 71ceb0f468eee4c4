"""Offsets of a pattern: how often equations are grown, up to which growths unknowns are settled."""

from hiddenties.errors import InvalidOffsets, NoChoice
from hiddenties.heavy import heaviest_of
from hiddenties.tight import choice_and_offsets, tight_unknowns
from hiddenties.values import are_offsets_of, check_pattern


def check_offsets(pattern, offsets):
    check_pattern(pattern)
    if not are_offsets_of(pattern, offsets):
        raise InvalidOffsets(offsets)


def are_offsets(pattern, value):
    """Whether a value, whatever it is, is offsets of the pattern."""
    check_pattern(pattern)
    return are_offsets_of(pattern, value)


def span_of(pattern, offsets):
    """The span of the offsets."""
    check_offsets(pattern, offsets)
    return sum(offsets[1]) - sum(offsets[0])


def are_best(pattern, offsets):
    """Whether the span of the offsets is the heaviest weight."""
    span = span_of(pattern, offsets)
    weight = heaviest_of(pattern)
    if weight is None:
        raise NoChoice()
    return span == weight


def least_offsets(pattern):
    """The best offsets that have no number above that of any other best ones."""
    check_pattern(pattern)
    return choice_and_offsets(pattern)[1]


def tight_spots(pattern, offsets):
    """The ascending tuple of the spots that are tight by the offsets."""
    check_offsets(pattern, offsets)
    lots = tight_unknowns(pattern, offsets)
    return tuple([(equation, unknown) for equation, lot in enumerate(lots) for unknown in lot])


def most_grown(pattern):
    """How often the equation is grown that the least offsets grow most often."""
    return max(least_offsets(pattern)[0])
