"""What places and rows are on motions: each is told by the places of the plain model, its rest.

The rest of a row is the row less such a tie that it has numbers at these places alone.
"""

from hiddenties.fracs import common_below, sum_of_products
from hiddenties.polys import number_at
from hiddenties.tables import common_divisor


class Ground:
    """A plain model: the degrees of its unknowns, the places below them, and what tells the growths there.

    `heads` are, for each unknown, the whole numbers that tell the growth of its degree by these
    places, each over `below`.
    """

    def __init__(self, plain):
        self.plain = plain
        self.orders = [len(row[unknown]) - 1 for unknown, row in enumerate(plain)]
        self.places = places_below(self.orders)
        self.below = common_below([number for row in plain for item in row for number in item])
        self.heads = [head_of(row, self.places, self.below) for row in plain]


def places_below(orders):
    """The ascending tuple of the places with growths below the orders."""
    return tuple([(unknown, growth) for unknown, order in enumerate(orders) for growth in range(order)])


def head_of(row, places, below):
    """What tells the greatest growth in an equation of a plain model by the places below."""
    numbers = [number_at(row[unknown], growth) for unknown, growth in places]
    return [-above * (below // own) for above, own in numbers]


def lowered(wholes, below):
    """Whole numbers over one number, both over what divides all of them."""
    common = common_divisor(wholes + [below])
    return [whole // common for whole in wholes], below // common


def rest_at_first(ground, unknown):
    """The rest of growth 0 of an unknown: a pair of whole numbers, one for each place, and the number below."""
    if ground.orders[unknown] == 0:
        return lowered(ground.heads[unknown], ground.below)
    return [1 if place == (unknown, 0) else 0 for place in ground.places], 1


def grown_rest(ground, rest):
    """The rest of what is grown once, by its own rest."""
    wholes, below = rest
    moved, tops, start = [], [], 0
    for order in ground.orders:
        own = wholes[start:start + order]
        start = start + order
        moved.extend(([0] + own)[:order])
        tops.append(own[-1] if order > 0 else 0)
    sums = [ground.below * whole for whole in moved]
    for top, head in zip(tops, ground.heads):
        if top != 0:
            sums = [total + top * whole for total, whole in zip(sums, head)]
    return lowered(sums, ground.below * below)


def rests_of(ground, places):
    """The rests of the places, in their order."""
    greatest = {}
    for unknown, growth in places:
        greatest[unknown] = max(growth, greatest.get(unknown, 0))
    told = {}
    for unknown in greatest:
        rests = [rest_at_first(ground, unknown)]
        for _ in range(greatest[unknown]):
            rests.append(grown_rest(ground, rests[-1]))
        told[unknown] = rests
    return [told[unknown][growth] for unknown, growth in places]


def row_rest(ground, row):
    """The rest of a row: a fraction for each place of the plain model."""
    places, numbers = [], []
    for unknown, item in enumerate(row):
        for growth, number in enumerate(item):
            places.append((unknown, growth))
            numbers.append(number)
    rests = rests_of(ground, places)
    return [
        sum_of_products([(factor, (wholes[k], below)) for factor, (wholes, below) in zip(numbers, rests)])
        for k in range(len(ground.places))
    ]


def is_tie_of(ground, row):
    """Whether a row leads all motions to nought."""
    return all([number[0] == 0 for number in row_rest(ground, row)])
