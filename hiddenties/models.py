"""Models and patterns: determinants, free starts, what is loose, forcings, leading numbers."""

from hiddenties.errors import InvalidCourses, InvalidOffsets, NotSolvable
from hiddenties.fracs import sum_of_products
from hiddenties.heavy import any_heaviest
from hiddenties.polytables import determinant, is_regular, leading_table, loose_of, orders_of, turned
from hiddenties.tight import least_pair
from hiddenties.values import are_courses, are_offsets_of, check_model, is_order_table, is_square


def is_model(value):
    """Whether a value, whatever it is, is a model."""
    return is_square(value)


def is_pattern(value):
    """Whether a value, whatever it is, is a pattern."""
    return is_order_table(value)


def pattern_of(model):
    """The pattern of a model: its orders."""
    check_model(model)
    return orders_of(model)


def determinant_of(model):
    """The determinant of a model, a polynomial."""
    check_model(model)
    return determinant(model)


def is_solvable(model):
    """Whether for all forcings some courses solve the model."""
    return len(determinant_of(model)) > 0


def free_starts(model):
    """How many numbers tell a motion of the model."""
    told = determinant_of(model)
    if len(told) == 0:
        raise NotSolvable()
    return len(told) - 1


def loose_row(model):
    """Any polynomials, not all nought, with which the rows sum to noughts; None."""
    if is_solvable(model):
        return None
    return loose_of(model)


def loose_unknowns(model):
    """Any polynomials, not all nought, that lead each course to a motion; None."""
    if is_solvable(model):
        return None
    return loose_of(turned(model))


def forced_growth(row, courses, growth):
    """A growth of the course to which a row leads courses."""
    pairs = []
    for item, course in zip(row, courses):
        for power, number in enumerate(item):
            pairs.append((number, course[growth + power]))
    return sum_of_products(pairs)


def forcing_of(row, courses):
    """The growths of the forcing of one equation, as far as they are settled."""
    greatest = max([0] + [len(item) - 1 for item in row])
    many = len(courses[0]) - greatest
    return tuple([forced_growth(row, courses, growth) for growth in range(many)])


def forcings_of(model, courses):
    """For each equation the growths of the forcing with which these courses solve it."""
    check_model(model)
    if not are_courses(courses, len(model)):
        raise InvalidCourses(courses)
    return tuple([forcing_of(row, courses) for row in model])


def leading_numbers(model, offsets):
    """The table of the numbers at the powers that the offsets let each polynomial have."""
    check_model(model)
    if not are_offsets_of(orders_of(model), offsets):
        raise InvalidOffsets(offsets)
    return leading_table(model, offsets)


def is_sound(model):
    """Whether the model is solvable, with as many free starts as its pattern lets."""
    check_model(model)
    pattern = orders_of(model)
    choice = any_heaviest(pattern)
    if choice is None:
        return False
    return is_regular(leading_table(model, least_pair(pattern, choice)))
