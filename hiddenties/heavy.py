"""Choices of patterns: whether there is one, the heaviest ones, and what shows that there is none.

What is "allowed" is a list with an ascending tuple of unknowns for each equation.
"""


def mentioned(pattern):
    """The unknowns that each equation mentions."""
    many = range(len(pattern))
    return [tuple([j for j in many if row[j] is not None]) for row in pattern]


def weight_along(pattern, choice):
    """The sum of the orders along a choice."""
    return sum([pattern[k][unknown] for k, unknown in enumerate(choice)])


def weights_of(pattern):
    """The orders, with numbers for None so low that a heaviest choice shuns what is not mentioned."""
    greatest = max([0] + [order for row in pattern for order in row if order is not None])
    shunned = -1 - len(pattern) * greatest
    return [[shunned if order is None else order for order in row] for row in pattern]


def enter_equation(weights, owners, equation):
    """Give an equation an unknown, moving others, so that the sum of all weights is the greatest.

    `owners` tells for each unknown that is taken its equation; so far their sum is the greatest,
    so no ring of moves gains, and the gains come to an end.
    """
    many = len(weights)
    gains, sources, better = list(weights[equation]), [None] * many, True
    while better:
        better = False
        for source in owners:
            row = weights[owners[source]]
            for unknown in range(many):
                gain = gains[source] - row[source] + row[unknown]
                if gain > gains[unknown]:
                    gains[unknown], sources[unknown], better = gain, source, True
    free = [place for place in range(many) if place not in owners]
    last = max(free, key=lambda place: gains[place])
    while sources[last] is not None:
        owners[last] = owners[sources[last]]
        last = sources[last]
    owners[last] = equation


def any_heaviest(pattern):
    """Any of the heaviest choices of a pattern, also of one without equations; None."""
    weights = weights_of(pattern)
    owners = {}
    for equation in range(len(pattern)):
        enter_equation(weights, owners, equation)
    choice = [None] * len(pattern)
    for unknown, equation in owners.items():
        choice[equation] = unknown
        if pattern[equation][unknown] is None:
            return None
    return tuple(choice)


def heaviest_of(pattern):
    """The heaviest weight of a pattern, also of one without equations; None."""
    choice = any_heaviest(pattern)
    if choice is None:
        return None
    return weight_along(pattern, choice)


def finds_unknown(allowed, equation, owners, seen):
    """Give an equation an unknown that is not seen yet, moving others; whether it got one."""
    for unknown in allowed[equation]:
        if unknown in seen:
            continue
        seen[unknown] = True
        if unknown not in owners or finds_unknown(allowed, owners[unknown], owners, seen):
            owners[unknown] = equation
            return True
    return False


def short_lot_of(allowed):
    """A short lot of equations, ascending; None."""
    owners = {}
    for equation in range(len(allowed)):
        seen = {}
        if not finds_unknown(allowed, equation, owners, seen):
            # All that was seen is taken, and mentioned by nothing but its owners and this one.
            return tuple(sorted([equation] + [owners[unknown] for unknown in seen]))
    return None


def can_go_on(allowed, begun):
    """Whether some choice begins with the unknowns that are told."""
    rest = [tuple([j for j in lot if j not in begun]) for lot in allowed[len(begun):]]
    return short_lot_of(rest) is None


def first_choice(allowed):
    """The first choice of allowed unknowns; None."""
    if not can_go_on(allowed, ()):
        return None
    choice = ()
    for lot in allowed:
        for unknown in lot:
            if unknown not in choice and can_go_on(allowed, choice + (unknown,)):
                choice = choice + (unknown,)
                break
    return choice


def longer_choices(allowed, begun):
    """What has begun choices, each with one unknown more, as far as it begins a choice."""
    lot, known, found = allowed[len(begun[0])], {}, []
    for choice in begun:
        for unknown in lot:
            if unknown in choice:
                continue
            # What can follow hangs on which unknowns are taken, not on who took them.
            taken = tuple(sorted(choice + (unknown,)))
            if taken not in known:
                known[taken] = can_go_on(allowed, choice + (unknown,))
            if known[taken]:
                found.append(choice + (unknown,))
    return found


def every_choice(allowed):
    """All choices of allowed unknowns, ascending; there is one."""
    found = [()]
    for _ in allowed:
        found = longer_choices(allowed, found)
    return tuple(found)
