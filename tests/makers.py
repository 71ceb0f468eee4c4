"""Patterns and models to test with, the same ones in each run."""

from random import Random

from tests import oracles

ONE, LESS, NIL = (1, 1), (-1, 1), (0, 1)
S, SS, UNIT, TWO = (NIL, ONE), (NIL, NIL, ONE), (ONE,), ((2, 1),)
SPRING = (((ONE, NIL, ONE),),)
ROD = ((SS, (), UNIT), ((NIL, LESS), UNIT, ()), (UNIT, (), ()))
TWINS = ((S, S), (S, (ONE, ONE)))
LOOP = ((S, SS), (UNIT, S))
SWING = ((2, None, 0), (None, 2, 0), (0, 0, None))
CHAIN, SHORT = ((1, 0), (None, 0)), ((0, 0, None), (1, 0, None), (0, 2, None))
HALF = ((1, 2),)
BAR = ((SS, (), UNIT), ((), SS, TWO), (UNIT, TWO, ()))
LOOSE = ((SS, (), ()), ((), SS, ()), ((), (), UNIT))
TURN = ((S, (LESS,)), (UNIT, S))
SLACK, EVEN = ((S, ()), ((), S)), ((S, S), ((), UNIT))
# Both unknowns raised alike: each equation's numbers sum to nought.
ALIKE = ((UNIT, (LESS,)), ((NIL, (3, 4)), (NIL, (-3, 4))))
NOUGHT = (((), ()), ((), ()))


def some_pattern(source, many, greatest, gaps):
    """A pattern with about so many gaps among ten entries."""
    return tuple(
        tuple(None if source.randrange(10) < gaps else source.randint(0, greatest) for _ in range(many))
        for _ in range(many)
    )


def some_patterns(seed, count, sizes=(1, 2, 3, 4), greatest=3):
    source = Random(seed)
    return [
        some_pattern(source, source.choice(sizes), source.randint(0, greatest), source.randint(0, 7))
        for _ in range(count)
    ]


def with_choices(patterns):
    return [pattern for pattern in patterns if oracles.all_choices(pattern)]


def without_choices(patterns):
    return [pattern for pattern in patterns if not oracles.all_choices(pattern)]


def fraction(source, greatest=4):
    return oracles.Fraction(source.randint(-greatest, greatest), source.randint(1, greatest))


def some_number(source):
    """A fraction of the document other than 0."""
    number = fraction(source)
    while number == 0:
        number = fraction(source)
    return (number.numerator, number.denominator)


def some_polynomial(source, degree):
    """A polynomial of this degree, some of its lower numbers 0."""
    lower = [(0, 1) if source.randrange(2) else some_number(source) for _ in range(degree)]
    return tuple(lower) + (some_number(source),)


def some_model(source, pattern):
    return tuple(
        tuple(() if order is None else some_polynomial(source, order) for order in row) for row in pattern
    )


def some_models(seed, count, sizes=(1, 2, 3, 4), greatest=3):
    source = Random(seed)
    return [some_model(source, pattern) for pattern in some_patterns(seed + 1, count, sizes, greatest)]


def with_row(table, place, row):
    return table[:place] + (row,) + table[place + 1:]


def stirred(source, model, steps):
    """A model with the same motions: rows plus polynomials times other rows."""
    many = len(model)
    for _ in range(steps if many > 1 else 0):
        place, other = source.sample(range(many), 2)
        factors = [()] * many
        factors[place] = UNIT
        factors[other] = some_polynomial(source, source.randint(0, 2))
        model = with_row(model, place, oracles.row_product(factors, model))
    return model


def weak_models(seed, count, sizes=(2, 3), steps=3):
    """Solvable models that are not sound."""
    source, found = Random(seed), []
    while len(found) < count:
        pattern = some_pattern(source, source.choice(sizes), 2, 3)
        model = stirred(source, some_model(source, pattern), steps)
        if oracles.determinant(model) and not oracles.is_sound(model):
            found.append(model)
    return found


def loose_models(seed, count, sizes=(2, 3)):
    """Models that are not solvable although their patterns may have choices: one row hangs on others."""
    source, found = Random(seed), []
    while len(found) < count:
        many = source.choice(sizes)
        model = some_model(source, some_pattern(source, many, 2, 3))
        factors = [some_polynomial(source, source.randint(0, 1)) for _ in range(many)]
        place = source.randrange(many)
        factors[place] = ()
        found.append(with_row(model, place, oracles.row_product(factors, model)))
    return found


def solvable(models):
    return [model for model in models if oracles.determinant(model)]


def solvable_models(seed, count, sizes=(1, 2, 3), greatest=2):
    """Solvable models, sound and weak ones, and those of the document."""
    found = solvable(some_models(seed, 2 * count, sizes, greatest))[:count] + weak_models(seed + 1, count // 3, steps=2)
    return found + [SPRING, ROD, TWINS, BAR, LOOSE, TURN, SLACK, EVEN]


def unit_table(many):
    return tuple(tuple(UNIT if i == j else () for j in range(many)) for i in range(many))


def some_row(source, many, greatest, gaps=3):
    """A row with about so many gaps among ten entries."""
    return tuple(
        () if source.randrange(10) < gaps else some_polynomial(source, source.randint(0, greatest)) for _ in range(many)
    )


def some_tie(source, model, greatest=1):
    """A tie of the model, and its paper."""
    paper = some_row(source, len(model), greatest)
    return oracles.row_product(paper, model), paper


def with_one_changed(source, row):
    """The row with one number changed."""
    unknown = source.randrange(len(row))
    numbers = oracles.numbers_of(row[unknown])
    numbers += [oracles.Fraction(0)] * (source.randint(1, 2) if source.randrange(4) == 0 or not numbers else 0)
    at = source.randrange(len(numbers))
    numbers[at] += oracles.Fraction(*some_number(source))
    return with_row(row, unknown, oracles.polynomial_of(numbers))


def some_places(source, many, count, growths):
    """Unlike places, not more than there are."""
    places = [(unknown, growth) for unknown in range(many) for growth in range(growths)]
    return tuple(source.sample(places, min(count, len(places))))


def some_lot(source, many, count, growths):
    return tuple(sorted(some_places(source, many, count, growths)))


def some_fractions(source, count):
    return tuple(
        (number.numerator, number.denominator) for number in [fraction(source) for _ in range(count)]
    )


def mixed_motion(source, motions, size):
    """A sum of multiples of motions, and the numbers they are multiplied by."""
    factors = [fraction(source) for _ in motions]
    told = tuple(
        tuple(
            pair(sum((factor * oracles.Fraction(*motion[j][k]) for factor, motion in zip(factors, motions)),
                     oracles.Fraction(0)))
            for k in range(len(motions))
        ) for j in range(size)
    )
    return told, factors


def pair(number):
    """A fraction of the document of one of Python's."""
    number = oracles.Fraction(number)
    return (number.numerator, number.denominator)


def wide_model(source, steps=0, order=1):
    """A solvable model with eight unknowns, and as many free starts as its orders sum to."""
    many = range(8)
    model = tuple(
        tuple(some_polynomial(source, order) if i == j else UNIT if j < i else () for j in many) for i in many
    )
    return stirred(source, model, steps)


# Pairs of a model and a lot of it that is no state lot: with too few places, too many, or dependent ones.
NO_STATE_LOTS = (
    (SPRING, ()), (ROD, ((0, 0),)), (TWINS, ((1, 0),)), (BAR, ((0, 0), (1, 0))), (TURN, ((0, 0), (0, 1), (1, 0))),
    (BAR, ((0, 0), (0, 1), (2, 0))),
)


def sound_models(seed, count, sizes=(1, 2, 3), greatest=2):
    """Sound models, some of them mended, and those of the document."""
    found = [model for model in solvable(some_models(seed, 6 * count, sizes, greatest)) if oracles.is_sound(model)]
    return found[:count] + [SPRING, ROD, BAR, LOOSE, TURN, SLACK]


# Models that are solvable, but not sound.
WEAK = (TWINS, ((UNIT, S), (S, (ONE, NIL, ONE))))


def times_row(source, model):
    """The model with one row times a polynomial: its motions are motions of that."""
    place = source.randrange(len(model))
    factor = some_polynomial(source, 1)
    factors = tuple(factor if k == place else () for k in range(len(model)))
    return with_row(model, place, oracles.row_product(factors, model))


def changed(source, model):
    """A solvable model that differs in one number."""
    while True:
        place = source.randrange(len(model))
        other = with_row(model, place, with_one_changed(source, model[place]))
        if oracles.determinant(other):
            return other


def some_pairs(seed, models):
    """Pairs of models of one size: alike ones, such as hold the motions of the other one, and any."""
    source, found = Random(seed), []
    for model in models:
        found.append((model, stirred(source, model, 2)))
        wider = times_row(source, model)
        found += [(model, wider), (wider, model), (model, changed(source, model))]
    for many in (1, 2, 3):
        some = [model for model in models if len(model) == many]
        found += [(source.choice(some), source.choice(some)) for _ in range(15)]
    return found + [(BAR, LOOSE), (LOOSE, BAR), (TURN, SLACK), (SLACK, TURN), (TWINS, SLACK), (ROD, BAR)]
