"""The least offsets of a pattern, the spots that are tight by them, and what hangs together."""

from hiddenties.errors import NoChoice
from hiddenties.heavy import any_heaviest


def least_pair(pattern, choice):
    """The least offsets, by a heaviest choice.

    Each equation is grown just as often as the growths of its unknown, told by all others, ask;
    this ends since no ring of moves makes a heaviest choice heavier.
    """
    many = range(len(pattern))
    grown = [0 for _ in many]
    while True:
        settled = [max([grown[i] + pattern[i][j] for i in many if pattern[i][j] is not None]) for j in many]
        needed = [settled[choice[i]] - pattern[i][choice[i]] for i in many]
        if needed == grown:
            return (tuple(grown), tuple(settled))
        grown = needed


def choice_and_offsets(pattern):
    """Any heaviest choice of a pattern, and its least offsets."""
    choice = any_heaviest(pattern)
    if choice is None:
        raise NoChoice()
    return choice, least_pair(pattern, choice)


def tight_unknowns(pattern, offsets):
    """For each equation the ascending tuple of the unknowns at which its spots are tight."""
    grown, settled = offsets
    lots = []
    for i, row in enumerate(pattern):
        lots.append(tuple([j for j, order in enumerate(row) if order == settled[j] - grown[i]]))
    return lots


def links_of(tight, choice):
    """For each equation those to which the choice gives the unknowns at its tight spots."""
    owners = {unknown: equation for equation, unknown in enumerate(choice)}
    return [[owners[unknown] for unknown in lot] for lot in tight]


def reached_from(links, start):
    """All equations that links lead to from one, itself included."""
    seen, waiting = {start: True}, [start]
    while len(waiting) > 0:
        at = waiting.pop()
        for other in links[at]:
            if other not in seen:
                seen[other] = True
                waiting.append(other)
    return seen
