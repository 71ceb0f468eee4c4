"""Courses that solve a plain model, led on from the numbers at its places."""

from hiddenties.fracs import ONE, ZERO, sum_of_products
from hiddenties.polys import number_at
from hiddenties.values import are_courses


def next_growth(ground, courses, unknown, forced):
    """The next growth of an unknown, told by growths ahead of it in the order of growths."""
    later = len(courses[unknown]) - ground.orders[unknown]
    pairs = [(number_at(forced, later), ONE)]
    for (other, growth), whole in zip(ground.places, ground.heads[unknown]):
        if whole != 0:
            pairs.append(((whole, ground.below), courses[other][growth + later]))
    return sum_of_products(pairs)


def courses_from(ground, numbers, forced, many):
    """The growths below `many` of each unknown: numbers at the places, the plain forcings being told."""
    courses = [[] for _ in ground.orders]
    for (unknown, _), number in zip(ground.places, numbers):
        courses[unknown].append(number)
    for growth in range(many):
        for unknown, order in enumerate(ground.orders):
            if growth >= order:
                courses[unknown].append(next_growth(ground, courses, unknown, forced[unknown]))
    return tuple([tuple(course[:many]) for course in courses])


def free_courses(ground, numbers, many):
    """The growths below `many` of each unknown in the motion with these numbers at the places."""
    return courses_from(ground, numbers, [() for _ in ground.orders], many)


def motion_from(ground, numbers):
    """The motion with these numbers at the places of the plain model."""
    return free_courses(ground, numbers, len(ground.places))


def numbers_at(courses, places):
    """The growths of courses at places."""
    return [courses[unknown][growth] for unknown, growth in places]


def is_motion_of(ground, value):
    """Whether a value is a motion: what is led on from its numbers is the value itself."""
    if not are_courses(value, len(ground.orders)) or len(value[0]) != len(ground.places):
        return False
    return motion_from(ground, numbers_at(value, ground.places)) == value


def further(ground, motion, many):
    """The growths below `many` of each unknown in a motion."""
    return free_courses(ground, numbers_at(motion, ground.places), many)


def breaking_from(ground, rest):
    """A motion in which what has this rest has a growth 0 other than 0; None if the rest is nought."""
    for at, number in enumerate(rest):
        if number[0] != 0:
            return motion_from(ground, [ONE if k == at else ZERO for k in range(len(rest))])
    return None
