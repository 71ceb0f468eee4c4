"""Blocks of a pattern: what hangs together by the heaviest choices, in the order of solving."""

from hiddenties.tight import choice_and_offsets, links_of, reached_from, tight_unknowns
from hiddenties.values import check_index, check_pattern


def reaches_of(tight, choice):
    """For each equation all that it needs for its unknowns, itself included."""
    links = links_of(tight, choice)
    return [reached_from(links, equation) for equation in range(len(links))]


def used_spots(pattern):
    """The ascending tuple of the spots that some heaviest choice uses."""
    check_pattern(pattern)
    choice, offsets = choice_and_offsets(pattern)
    tight = tight_unknowns(pattern, offsets)
    links, reaches = links_of(tight, choice), reaches_of(tight, choice)
    spots = []
    for equation, lot in enumerate(tight):
        for unknown, owner in zip(lot, links[equation]):
            # A ring leads back from the owner, and along it another heaviest choice takes the spot.
            if equation in reaches[owner]:
                spots.append((equation, unknown))
    return tuple(spots)


def equation_lots(reaches):
    """The equations of the blocks, ascending, by the least equation of each."""
    lots = []
    for equation, reach in enumerate(reaches):
        lot = [other for other in sorted(reach) if equation in reaches[other]]
        if lot[0] == equation:
            lots.append(tuple(lot))
    return lots


def in_solving_order(lots, reaches):
    """The equations of the blocks, each block behind those that it needs."""
    told, ordered, waiting = {}, [], list(lots)
    while len(waiting) > 0:
        at = 0
        while not is_ready(waiting[at], reaches, told):
            at = at + 1
        lot = waiting.pop(at)
        ordered.append(lot)
        for equation in lot:
            told[equation] = True
    return ordered


def is_ready(lot, reaches, told):
    """Whether all that a block needs is told."""
    return all([other in told or other in lot for other in reaches[lot[0]]])


def solved_blocks(pattern):
    """The blocks in the order of solving, and all equations that each equation leads to."""
    choice, offsets = choice_and_offsets(pattern)
    reaches = reaches_of(tight_unknowns(pattern, offsets), choice)
    ordered = in_solving_order(equation_lots(reaches), reaches)
    told = [(lot, tuple(sorted([choice[equation] for equation in lot]))) for lot in ordered]
    return tuple(told), reaches


def blocks(pattern):
    """The tuple of the pairs (EQUATIONS, UNKNOWNS), in the order of solving."""
    check_pattern(pattern)
    return solved_blocks(pattern)[0]


def block_of(pattern, equation):
    """The index of the block that has the equation."""
    check_pattern(pattern)
    check_index(equation, len(pattern))
    told = solved_blocks(pattern)[0]
    return [k for k, (lot, _) in enumerate(told) if equation in lot][0]


def needed_blocks(pattern, block):
    """The ascending tuple of the indexes of all blocks that one needs, also through others."""
    check_pattern(pattern)
    told, reaches = solved_blocks(pattern)
    check_index(block, len(told))
    reach = reaches[told[block][0][0]]
    return tuple([k for k, (lot, _) in enumerate(told) if k != block and lot[0] in reach])
