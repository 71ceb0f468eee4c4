"""What the modules for fractions, polynomials and tables of whole numbers work out, beside Python's fractions."""

import unittest
from fractions import Fraction
from random import Random

from hiddenties.fracs import common_below, difference, negative, reduced, sum_of_products, wholes_of
from hiddenties.grounds import Ground, grown_rest, rests_of, row_rest
from hiddenties.plainforms import closed_base, plain_of
from hiddenties.polys import added, multiplied, number_at, quotient, raised, scaled, trimmed, value_at, wholes_through
from hiddenties.polytables import leading_table, null_weights, plain_row, row_times, table_times, turned, unit_table
from hiddenties.tables import cofactors, full_stairs, null_row, whole_determinant
from tests import makers, oracles
from tests.helps import Case
from tests.makers import LESS, NIL, ONE, ROD, S, SS, TWINS, UNIT


def some_polynomials(seed, count):
    source = Random(seed)
    return [() if k % 5 == 0 else makers.some_polynomial(source, source.randint(0, 4)) for k in range(count)]


class FractionsTest(Case):
    def test_reduced(self):
        for above in range(-12, 13):
            for below in range(-12, 13):
                if below != 0:
                    wanted = Fraction(above, below)
                    self.check_equal(reduced(above, below), (wanted.numerator, wanted.denominator))

    def test_common_below(self):
        self.check_equal(common_below(()), 1)
        self.check_equal(common_below(((1, 4), (5, 6), (0, 1))), 12)
        self.assertEqual(wholes_of(((1, 4), (-5, 6), (0, 1)), 12), [3, -10, 0])

    def test_sum_of_products(self):
        self.check_equal(sum_of_products([]), NIL)
        self.check_equal(sum_of_products([((1, 2), (1, 3)), ((-1, 6), ONE)]), NIL)
        self.check_equal(sum_of_products([((1, 2), (1, 3)), ((5, 4), (2, 7))]), (11, 21))


class PolynomialsTest(Case):
    def test_sums_and_products(self):
        source = Random(81)
        for one, other in zip(some_polynomials(82, 60), some_polynomials(83, 61)[1:]):
            left, right = oracles.numbers_of(one), oracles.numbers_of(other)
            self.check_equal(added(one, other), oracles.polynomial_of(oracles.plus(left, right)))
            self.check_equal(added(one, scaled(one, LESS)), ())
            self.check_equal(multiplied(one, other), oracles.polynomial_of(oracles.times(left, right)))
            number = makers.some_number(source)
            self.check_equal(scaled(one, number), oracles.polynomial_of(oracles.times(left, [Fraction(*number)])))
            self.check_equal(scaled(one, NIL), ())
            self.check_equal(raised(one, 3), multiplied(one, (NIL, NIL, NIL, ONE)))

    def test_parts(self):
        self.check_equal(trimmed([ONE, NIL, NIL]), UNIT)
        self.check_equal(trimmed([NIL]), ())
        self.check_equal(tuple(number_at(SS, k) for k in (-1, 0, 2, 3)), (NIL, NIL, ONE, NIL))

    def test_values_and_back(self):
        source = Random(84)
        for many in range(9):
            wholes = [source.randint(-9, 9) for _ in range(many)]
            for more in (0, 1, 3):
                values = [value_at(wholes, at) for at in range(many + more)]
                self.assertEqual(wholes_through(values), wholes + [0] * more)
        self.assertEqual(value_at([3, 0, 2], -5), 53)

    def test_differences(self):
        self.check_equal(difference((1, 2), (1, 3)), (1, 6))
        self.check_equal(difference((1, 2), (1, 2)), NIL)
        self.check_equal(negative((-3, 7)), (3, 7))
        self.check_equal(negative(NIL), NIL)


class QuotientTest(Case):
    def test_multiples_and_others(self):
        told, source, found = some_polynomials(91, 80), Random(92), {}
        for one, other in zip(told, told[1:]):
            if not other:
                continue
            product = multiplied(one, other)
            self.check_equal(quotient(product, other), one)
            changed = list(product) + [NIL] * (not product)
            at = source.randrange(len(changed))
            changed[at] = makers.pair(Fraction(*changed[at]) + Fraction(1, 3))
            number, rest = oracles.divided(oracles.numbers_of(trimmed(changed)), oracles.numbers_of(other))
            self.check_equal(quotient(trimmed(changed), other), None if rest else oracles.polynomial_of(number))
            found[bool(rest)] = True
        self.assertEqual(len(found), 2)

    def test_edges(self):
        self.check_equal(quotient((), S), ())
        self.check_equal(quotient(UNIT, S), None)
        self.check_equal(quotient(SS, S), S)
        self.check_equal(quotient(((2, 3), (4, 9)), ((3, 1), (2, 1))), ((2, 9),))
        self.check_equal(quotient((ONE, NIL, LESS), (ONE, ONE)), (ONE, LESS))
        self.check_equal(quotient((ONE, NIL, ONE), (ONE, ONE)), None)


class TablesTest(Case):
    def test_full_stairs(self):
        """The rows are multiples of a base in stairs, with one and the same number at all steps."""
        source = Random(93)
        for k in range(150):
            table = self.some_table(source, k % 5, 1 + k % 6)
            rows, columns, last = full_stairs(table, 1 + k % 6)
            self.assertEqual(len(columns), oracles.rank(table))
            self.assertEqual(columns, sorted(columns))
            for step, column in enumerate(columns):
                self.assertEqual([row[column] for row in rows], [last if at == step else 0 for at in range(len(rows))])
                self.assertFalse(any(rows[step][:column]))
            self.assertFalse(any(any(row) for row in rows[len(columns):]))
            self.assertEqual(oracles.rank(table + rows), len(columns))

    def some_table(self, source, rows, columns):
        return [[source.choice((-2, -1, 0, 0, 1, 3)) for _ in range(columns)] for _ in range(rows)]

    def whole(self, table):
        return oracles.number_determinant([[(number, 1) for number in row] for row in table])

    def test_determinants_and_null_rows(self):
        source, found = Random(85), {}
        for k in range(200):
            many = 1 + k % 4
            table = self.some_table(source, many, many)
            wanted, row = self.whole(table), null_row(table)
            self.assertEqual(whole_determinant(table), wanted)
            self.assertIs(row is None, wanted != 0)
            if row is not None:
                self.assertTrue(any(row))
                self.assertEqual([sum(a * b for a, b in zip(row, told)) for told in zip(*table)], [0] * many)
            found[wanted == 0] = True
        self.assertEqual(len(found), 2)

    def test_cofactors(self):
        source = Random(86)
        for k in range(120):
            many = 1 + k % 4
            table = self.some_table(source, many, many - 1)
            minors = [self.whole(table[:place] + table[place + 1:]) for place in range(many)]
            wanted = [(-1) ** (place + many - 1) * minor for place, minor in enumerate(minors)]
            self.assertEqual(cofactors(table), wanted, table)

    def test_null_weights(self):
        self.assertIsNone(null_weights((((1, 2), NIL), (NIL, ONE))))
        weights = null_weights((((1, 2), (1, 3)), ((3, 4), (1, 2))))
        self.assertEqual(Fraction(*weights[0]) * 2, Fraction(*weights[1]) * -3)
        self.assertNotEqual(weights[0], NIL)


class PolynomialTablesTest(Case):
    def test_products(self):
        models = makers.some_models(87, 40, (3,))
        for one, other in zip(models, models[1:]):
            self.check_equal(table_times(one, other), oracles.table_product(one, other))
            self.check_equal(row_times(one[0], other), oracles.row_product(one[0], other))
            self.check_equal(table_times(unit_table(3), one), one)
            self.check_equal(turned(one), oracles.turned(one))

    def test_leading_table(self):
        self.check_equal(leading_table(TWINS, ((0, 0), (1, 1))), ((ONE, ONE), (ONE, ONE)))
        self.check_equal(leading_table(ROD, ((3, 0, 0), (1, 1, 0))), ((NIL, NIL, NIL), (LESS, NIL, NIL), (NIL, NIL, NIL)))

    def test_plain_row(self):
        self.check_equal(plain_row((((2, 3),), (), ((4, 9), (0, 1), (-10, 3)))), (((3, 1),), (), ((2, 1), NIL, (-15, 1))))
        self.check_equal(plain_row((((6, 1),), S)), (((6, 1),), S))


class PlainFormsTest(Case):
    def test_closed_base(self):
        """x' and x' + y, up to growth 1, make y, and with it y'; spread by growths: x, y, x', y'."""
        told = closed_base([[0, 0, 2, 0], [0, 3, 3, 0]], 2)
        self.assertEqual(sorted(told), [1, 2, 3])
        for place, row in told.items():
            self.assertEqual([abs(number) for number in row], [int(at == place) for at in range(4)])
        self.assertEqual(closed_base([[0, 0]], 1), {})

    def test_models_that_are_not_solvable(self):
        for model in makers.loose_models(94, 30) + [makers.LOOP, makers.ALIKE, makers.NOUGHT, (((),),)]:
            self.assertIsNone(plain_of(model))


class GroundsTest(Case):
    def test_rests(self):
        """A place less its rest is a tie, and so is what is grown."""
        source = Random(95)
        for model in makers.solvable_models(96, 25):
            ground = Ground(plain_of(model))
            places = list(makers.some_places(source, len(model), 3, 5))
            for place, (wholes, below) in zip(places, rests_of(ground, places)):
                self.check_rest(model, ground, place, wholes, below)
                wholes, below = grown_rest(ground, (wholes, below))
                self.check_rest(model, ground, (place[0], place[1] + 1), wholes, below)

    def check_rest(self, model, ground, place, wholes, below):
        self.assertGreater(below, 0)
        row = tuple((NIL,) * place[1] + (ONE,) if k == place[0] else () for k in range(len(model)))
        for at, whole in zip(ground.places, wholes):
            less = trimmed((NIL,) * at[1] + (reduced(-whole, below),))
            own = tuple(less if k == at[0] else () for k in range(len(model)))
            row = tuple(added(item, other) for item, other in zip(row, own))
        self.assertIsNotNone(oracles.paper(model, row))
        self.check_equal(tuple(row_rest(ground, row)), (NIL,) * len(ground.places))


if __name__ == "__main__":
    unittest.main()
