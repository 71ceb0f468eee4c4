"""What the modules for fractions, polynomials and tables of whole numbers work out, beside Python's fractions."""

import unittest
from fractions import Fraction
from random import Random

from hiddenties.fracs import common_below, reduced, sum_of_products, wholes_of
from hiddenties.polys import added, multiplied, number_at, raised, scaled, trimmed, value_at, wholes_through
from hiddenties.polytables import leading_table, null_weights, plain_row, row_times, table_times, turned, unit_table
from hiddenties.tables import cofactors, null_row, whole_determinant
from tests import makers, oracles
from tests.helps import Case
from tests.makers import LESS, NIL, ONE, ROD, S, SS, TWINS, UNIT


def some_polynomials(seed, count):
    source = Random(seed)
    return [() if k % 5 == 0 else makers.some_polynomial(source, source.randint(0, 4)) for k in range(count)]


class FractionsTest(Case):
    def test_reduced(self):
        for above in range(-12, 13):
            for below in range(-12, 13):
                if below != 0:
                    wanted = Fraction(above, below)
                    self.check_equal(reduced(above, below), (wanted.numerator, wanted.denominator))

    def test_common_below(self):
        self.check_equal(common_below(()), 1)
        self.check_equal(common_below(((1, 4), (5, 6), (0, 1))), 12)
        self.assertEqual(wholes_of(((1, 4), (-5, 6), (0, 1)), 12), [3, -10, 0])

    def test_sum_of_products(self):
        self.check_equal(sum_of_products([]), NIL)
        self.check_equal(sum_of_products([((1, 2), (1, 3)), ((-1, 6), ONE)]), NIL)
        self.check_equal(sum_of_products([((1, 2), (1, 3)), ((5, 4), (2, 7))]), (11, 21))


class PolynomialsTest(Case):
    def test_sums_and_products(self):
        source = Random(81)
        for one, other in zip(some_polynomials(82, 60), some_polynomials(83, 61)[1:]):
            left, right = oracles.numbers_of(one), oracles.numbers_of(other)
            self.check_equal(added(one, other), oracles.polynomial_of(oracles.plus(left, right)))
            self.check_equal(added(one, scaled(one, LESS)), ())
            self.check_equal(multiplied(one, other), oracles.polynomial_of(oracles.times(left, right)))
            number = makers.some_number(source)
            self.check_equal(scaled(one, number), oracles.polynomial_of(oracles.times(left, [Fraction(*number)])))
            self.check_equal(scaled(one, NIL), ())
            self.check_equal(raised(one, 3), multiplied(one, (NIL, NIL, NIL, ONE)))

    def test_parts(self):
        self.check_equal(trimmed([ONE, NIL, NIL]), UNIT)
        self.check_equal(trimmed([NIL]), ())
        self.check_equal(tuple(number_at(SS, k) for k in (-1, 0, 2, 3)), (NIL, NIL, ONE, NIL))

    def test_values_and_back(self):
        source = Random(84)
        for many in range(9):
            wholes = [source.randint(-9, 9) for _ in range(many)]
            for more in (0, 1, 3):
                values = [value_at(wholes, at) for at in range(many + more)]
                self.assertEqual(wholes_through(values), wholes + [0] * more)
        self.assertEqual(value_at([3, 0, 2], -5), 53)


class TablesTest(Case):
    def some_table(self, source, rows, columns):
        return [[source.choice((-2, -1, 0, 0, 1, 3)) for _ in range(columns)] for _ in range(rows)]

    def whole(self, table):
        return oracles.number_determinant([[(number, 1) for number in row] for row in table])

    def test_determinants_and_null_rows(self):
        source, found = Random(85), {}
        for k in range(200):
            many = 1 + k % 4
            table = self.some_table(source, many, many)
            wanted, row = self.whole(table), null_row(table)
            self.assertEqual(whole_determinant(table), wanted)
            self.assertIs(row is None, wanted != 0)
            if row is not None:
                self.assertTrue(any(row))
                self.assertEqual([sum(a * b for a, b in zip(row, told)) for told in zip(*table)], [0] * many)
            found[wanted == 0] = True
        self.assertEqual(len(found), 2)

    def test_cofactors(self):
        source = Random(86)
        for k in range(120):
            many = 1 + k % 4
            table = self.some_table(source, many, many - 1)
            minors = [self.whole(table[:place] + table[place + 1:]) for place in range(many)]
            wanted = [(-1) ** (place + many - 1) * minor for place, minor in enumerate(minors)]
            self.assertEqual(cofactors(table), wanted, table)

    def test_null_weights(self):
        self.assertIsNone(null_weights((((1, 2), NIL), (NIL, ONE))))
        weights = null_weights((((1, 2), (1, 3)), ((3, 4), (1, 2))))
        self.assertEqual(Fraction(*weights[0]) * 2, Fraction(*weights[1]) * -3)
        self.assertNotEqual(weights[0], NIL)


class PolynomialTablesTest(Case):
    def test_products(self):
        models = makers.some_models(87, 40, (3,))
        for one, other in zip(models, models[1:]):
            self.check_equal(table_times(one, other), oracles.table_product(one, other))
            self.check_equal(row_times(one[0], other), oracles.row_product(one[0], other))
            self.check_equal(table_times(unit_table(3), one), one)
            self.check_equal(turned(one), oracles.turned(one))

    def test_leading_table(self):
        self.check_equal(leading_table(TWINS, ((0, 0), (1, 1))), ((ONE, ONE), (ONE, ONE)))
        self.check_equal(leading_table(ROD, ((3, 0, 0), (1, 1, 0))), ((NIL, NIL, NIL), (LESS, NIL, NIL), (NIL, NIL, NIL)))

    def test_plain_row(self):
        self.check_equal(plain_row((((2, 3),), (), ((4, 9), (0, 1), (-10, 3)))), (((3, 1),), (), ((2, 1), NIL, (-15, 1))))
        self.check_equal(plain_row((((6, 1),), S)), (((6, 1),), S))


if __name__ == "__main__":
    unittest.main()
