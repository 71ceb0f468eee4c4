"""Starts: numbers at the places of a lot, with forcings, and the solutions that have them."""

from hiddenties.checks import check_forcings, check_lot, check_number, check_numbers, ground_of
from hiddenties.courses import courses_from, motion_from, numbers_at
from hiddenties.fracs import ZERO, difference, sum_of_products
from hiddenties.greed import tie_at, told_by_taken
from hiddenties.lots import numbers_by, weighed
from hiddenties.papers import papers_of
from hiddenties.polys import number_at


def led_forcing(row, forcings):
    """The growths, further ones being 0, of the course to which a row leads forcings."""
    led = []
    for growth in range(max([len(forcing) for forcing in forcings])):
        pairs = []
        for item, forcing in zip(row, forcings):
            for power, number in enumerate(item):
                pairs.append((number, number_at(forcing, growth + power)))
        led.append(sum_of_products(pairs))
    return led


def plain_forcings(model, ground, forcings):
    """The forcings with which the plain model has the solutions that the model has with these."""
    if len(forcings) == 0:
        return [[] for _ in model]
    return [led_forcing(row, forcings) for row in papers_of(model, ground.plain)]


def gaps_of(ground, forced, lot, numbers):
    """The numbers at a lot less those of the solution with 0 at all places of the plain model."""
    many = 1 + max([growth for _, growth in lot], default=0)
    courses = courses_from(ground, [ZERO for _ in ground.places], forced, many)
    return [difference(number, other) for number, other in zip(numbers, numbers_at(courses, lot))]


class Start:
    """Numbers at a lot, and how the places of the lot, and then those of the plain model, are told."""

    def __init__(self, model, ground, lot, numbers, forcings):
        self.ground = ground
        self.many = len(lot)
        self.places = list(lot) + list(ground.places)
        self.forced = plain_forcings(model, ground, forcings)
        self.gaps = gaps_of(ground, self.forced, lot, numbers)
        self.taken, self.weights = told_by_taken(ground, self.places)

    def told_gap(self, at):
        """What the numbers at the taken places of the lot tell of a place, beyond the forcings."""
        numbers = [self.gaps[k] if k < self.many else ZERO for k in self.taken]
        return weighed(self.weights[at], numbers)

    def broken_at(self):
        """The index of the first place of the lot at which a tie is not kept; None."""
        for at in range(self.many):
            if at not in self.taken and self.gaps[at] != self.told_gap(at):
                return at
        return None

    def word(self):
        """How many solutions have these numbers."""
        if self.broken_at() is not None:
            return "none"
        return "one" if all([k < self.many for k in self.taken]) else "many"

    def courses(self, many):
        """The growths below `many` of each unknown in the one solution."""
        numbers = [self.told_gap(self.many + k) for k in range(len(self.ground.places))]
        return courses_from(self.ground, numbers, self.forced, many)


def ground_for(model, lot, numbers, forcings):
    """What tells the motions of a model, with a lot, numbers there, and forcings."""
    ground = ground_of(model)
    check_lot(lot, len(model))
    check_numbers(numbers, len(lot))
    check_forcings(forcings, len(model))
    return ground


def start_word(model, lot, numbers, forcings):
    """`none`, `one` or `many`: how many solutions have these numbers at the lot."""
    ground = ground_for(model, lot, numbers, forcings)
    return Start(model, ground, lot, numbers, forcings).word()


def broken_tie(model, lot, numbers, forcings):
    """The first tie of the base of the ties on the lot that is not kept; None if some solution has the start."""
    ground = ground_for(model, lot, numbers, forcings)
    start = Start(model, ground, lot, numbers, forcings)
    at = start.broken_at()
    if at is None:
        return None
    return tie_at(ground, start.places, start.taken, start.weights, at)


def motion_with(model, lot, numbers):
    """The motion with these numbers at a state lot."""
    ground = ground_for(model, lot, numbers, ())
    return motion_from(ground, numbers_by(ground, lot, numbers))


def course_with(model, lot, numbers, forcings, many):
    """The growths below `many` of each unknown in the one solution with this start; None."""
    ground = ground_for(model, lot, numbers, forcings)
    check_number(many, 1)
    start = Start(model, ground, lot, numbers, forcings)
    if start.word() != "one":
        return None
    return start.courses(many)
