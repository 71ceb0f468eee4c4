"""Sure patterns: whether the places alone tell how many free starts there are."""

from hiddenties.blocks import blocks
from hiddenties.fracs import ONE, ZERO, reduced
from hiddenties.heavy import any_heaviest, first_choice
from hiddenties.tables import whole_determinant
from hiddenties.tight import least_pair, tight_unknowns
from hiddenties.values import check_pattern


def is_sure(pattern):
    """Whether each model of the pattern is solvable, with as many free starts as it lets."""
    check_pattern(pattern)
    return any_heaviest(pattern) is not None and len(blocks(pattern)) == len(pattern)


def model_with(pattern, numbers):
    """The model of the pattern with these numbers, or 1, at the orders, and 0 below."""
    rows = []
    for equation, row in enumerate(pattern):
        rows.append(tuple([
            () if order is None else (ZERO,) * order + (numbers.get((equation, unknown), ONE),)
            for unknown, order in enumerate(row)
        ]))
    return tuple(rows)


def along_ring(choice, other, start):
    """The choice, but along the ring from an equation at which the other one differs, as that one."""
    owners = {unknown: equation for equation, unknown in enumerate(choice)}
    ringed, at = list(choice), start
    while ringed[at] != other[at]:
        ringed[at] = other[at]
        at = owners[other[at]]
    return tuple(ringed)


def next_choice(tight, choice):
    """A choice of tight spots that differs from this one along one ring, and an equation there; None."""
    for equation, lot in enumerate(tight):
        for unknown in lot:
            if unknown == choice[equation]:
                continue
            other = first_choice(tight[:equation] + [(unknown,)] + tight[equation + 1:])
            if other is not None:
                return along_ring(choice, other, equation), equation
    return None


def tight_determinant(tight, numbers):
    """The determinant of the whole numbers at tight spots, 1 where none is told."""
    many = range(len(tight))
    return whole_determinant([[numbers.get((i, j), 1) if j in tight[i] else 0 for j in many] for i in many])


def weak_numbers(tight, choice, other, start):
    """Numbers at the spots of both choices with which those at tight spots are dependent.

    The last one brings what stands beside it and the rest to the sum 0. Neither of both is 0
    as soon as the number at all the others is great enough, and some small one mostly will do.
    """
    spots = list(enumerate(choice)) + list(enumerate(other))
    last, great = (start, choice[start]), 0
    rest = beside = 0
    while rest == 0 or beside == 0:
        great = great + 1
        numbers = {spot: great for spot in spots}
        numbers[last] = 0
        rest = tight_determinant(tight, numbers)
        numbers[last] = 1
        beside = tight_determinant(tight, numbers) - rest
    told = {spot: (great, 1) for spot in spots}
    told[last] = reduced(-rest, beside)
    return told


def weak_model(pattern):
    """Any model of the pattern with fewer free starts than it lets, or not solvable; None if sure."""
    check_pattern(pattern)
    choice = any_heaviest(pattern)
    if choice is None:
        return model_with(pattern, {})
    tight = tight_unknowns(pattern, least_pair(pattern, choice))
    found = next_choice(tight, choice)
    if found is None:
        return None
    other, start = found
    return model_with(pattern, weak_numbers(tight, choice, other, start))


def sound_model(pattern):
    """Any model of the pattern with as many free starts as it lets; None without a choice."""
    check_pattern(pattern)
    choice = any_heaviest(pattern)
    if choice is None:
        return None
    # Each number along the choice outweighs all the others of its row, so their table is regular.
    many = len(pattern)
    return model_with(pattern, {(equation, choice[equation]): (many, 1) for equation in range(many)})
