"""Whether a value, whatever it is, has a form, and the errors for arguments that have it not."""

from math import gcd

from hiddenties.errors import InvalidIndex, InvalidModel, InvalidPattern


def is_whole(value):
    """True and False are integers in Python, but no whole numbers here."""
    return isinstance(value, int) and not isinstance(value, bool)


def is_natural(value):
    """Whether a value is a whole number from 0 on."""
    return is_whole(value) and value >= 0


def is_index(value, many):
    """Whether a value is an index of one of so many elements."""
    return is_natural(value) and value < many


def is_tuple(value, many):
    """Whether a value is a tuple of so many elements."""
    return isinstance(value, tuple) and len(value) == many


def is_fraction(value):
    """Whether a value is a reduced pair of whole numbers, the second one above 0."""
    if not (is_tuple(value, 2) and is_whole(value[0]) and is_whole(value[1])):
        return False
    return value[1] > 0 and gcd(value[0], value[1]) == 1


def is_course(value):
    """Whether a value is a tuple of fractions."""
    return isinstance(value, tuple) and all([is_fraction(item) for item in value])


def is_polynomial(value):
    """Whether a value is a tuple of fractions that does not end with 0."""
    return is_course(value) and (len(value) == 0 or value[-1][0] != 0)


def is_row(value, many):
    """Whether a value is a tuple of so many polynomials."""
    return is_tuple(value, many) and all([is_polynomial(item) for item in value])


def is_square(value):
    """Whether a value is a table of polynomials with as many rows, from 1 on, as columns."""
    if not isinstance(value, tuple) or len(value) == 0:
        return False
    return all([is_row(row, len(value)) for row in value])


def is_entry(value):
    """Whether a value may stand in a pattern."""
    return value is None or is_natural(value)


def is_pattern_row(value, many):
    """Whether a value is a tuple of so many entries of a pattern."""
    return is_tuple(value, many) and all([is_entry(item) for item in value])


def is_order_table(value):
    """Whether a value is a table of entries with as many rows, from 1 on, as columns."""
    if not isinstance(value, tuple) or len(value) == 0:
        return False
    return all([is_pattern_row(row, len(value)) for row in value])


def are_courses(value, many):
    """Whether a value is a tuple of so many tuples of equally many fractions."""
    if not (is_tuple(value, many) and all([is_course(item) for item in value])):
        return False
    return all([len(item) == len(value[0]) for item in value])


def is_choice_of(pattern, value):
    """Whether a value is a choice of a pattern."""
    many = len(pattern)
    if not (is_tuple(value, many) and all([is_index(item, many) for item in value])):
        return False
    if len(set(value)) < many:
        return False
    return all([pattern[k][value[k]] is not None for k in range(many)])


def is_place(value, many):
    """Whether a value is a pair of an index of one of so many unknowns and a growth."""
    return is_tuple(value, 2) and is_index(value[0], many) and is_natural(value[1])


def is_index_tuple(value, many):
    """Whether a value is an ascending tuple of indexes of so many elements."""
    return isinstance(value, tuple) and first_wrong_index(value, many) is None


def first_wrong_index(value, many):
    """Where in a tuple stands the first element that is no index of so many, or not above the one before; None."""
    for index, item in enumerate(value):
        if not is_index(item, many) or index > 0 and value[index - 1] >= item:
            return index
    return None


def are_numbers(value, many):
    """Whether a value is a tuple of so many whole numbers from 0 on."""
    return is_tuple(value, many) and all([is_natural(item) for item in value])


def are_offsets_of(pattern, value):
    """Whether a value is offsets of a pattern."""
    many = len(pattern)
    if not (is_tuple(value, 2) and are_numbers(value[0], many) and are_numbers(value[1], many)):
        return False
    for i in range(many):
        for j in range(many):
            order = pattern[i][j]
            if order is not None and value[1][j] - value[0][i] < order:
                return False
    return True


def check_pattern(pattern):
    if not is_order_table(pattern):
        raise InvalidPattern(pattern)


def check_model(model):
    if not is_square(model):
        raise InvalidModel(model)


def check_index(index, many):
    if not is_index(index, many):
        raise InvalidIndex(index)
