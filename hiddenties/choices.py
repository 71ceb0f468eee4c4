"""Choices of a pattern: an unlike unknown for each equation, and the heaviest of them."""

from hiddenties.errors import InvalidChoice, NoChoice
from hiddenties.heavy import any_heaviest, every_choice, first_choice, heaviest_of, mentioned, short_lot_of
from hiddenties.heavy import weight_along
from hiddenties.tight import least_pair, tight_unknowns
from hiddenties.values import check_index, check_pattern, is_choice_of


def is_choice(pattern, value):
    """Whether a value, whatever it is, is a choice of the pattern."""
    check_pattern(pattern)
    return is_choice_of(pattern, value)


def choice_weight(pattern, choice):
    """The sum of the orders along a choice."""
    check_pattern(pattern)
    if not is_choice_of(pattern, choice):
        raise InvalidChoice(choice)
    return weight_along(pattern, choice)


def heavy_unknowns(pattern):
    """For each equation the unknowns at its tight spots: just the heaviest choices lie there; None."""
    choice = any_heaviest(pattern)
    if choice is None:
        return None
    return tight_unknowns(pattern, least_pair(pattern, choice))


def heaviest_choice(pattern):
    """The first one of the heaviest choices; None."""
    check_pattern(pattern)
    allowed = heavy_unknowns(pattern)
    if allowed is None:
        return None
    return first_choice(allowed)


def heaviest_choices(pattern):
    """The ascending tuple of all heaviest choices."""
    check_pattern(pattern)
    allowed = heavy_unknowns(pattern)
    if allowed is None:
        return ()
    return every_choice(allowed)


def heaviest_weight(pattern):
    """The greatest weight of all choices; None."""
    check_pattern(pattern)
    return heaviest_of(pattern)


def short_lot(pattern):
    """Any equations that mention fewer unknowns than they are; None."""
    check_pattern(pattern)
    return short_lot_of(mentioned(pattern))


def without_spot(pattern, equation, unknown):
    """The pattern without an equation and an unknown."""
    rows = pattern[:equation] + pattern[equation + 1:]
    return tuple([row[:unknown] + row[unknown + 1:] for row in rows])


def room_at(pattern, equation, unknown):
    """The greatest order that leaves the heaviest weight as it is; None if all orders do."""
    check_pattern(pattern)
    check_index(equation, len(pattern))
    check_index(unknown, len(pattern))
    weight = heaviest_of(pattern)
    if weight is None:
        raise NoChoice()
    others = heaviest_of(without_spot(pattern, equation, unknown))
    if others is None:
        return None
    return weight - others
