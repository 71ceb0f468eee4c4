"""Point 18, and the interface of hiddenties/mended.py."""

import unittest
from random import Random

from hiddenties import mended as module
from hiddenties.errors import InvalidModel, NotSolvable
from hiddenties.mended import is_mending, mended, mending_table
from hiddenties.models import determinant_of, is_model
from tests import makers, oracles, wrongs
from tests.helps import Case
from tests.makers import ALIKE, LESS, LOOP, NOUGHT, ONE, ROD, S, SPRING, SS, TWINS, TWO, UNIT


def solvable():
    found = makers.some_models(71, 100, (1, 2, 3)) + makers.weak_models(72, 40) + makers.weak_models(73, 5, (4,), 4)
    return [model for model in found if oracles.determinant(model)] + [SPRING, ROD, TWINS]


def loose():
    return makers.loose_models(74, 20) + [LOOP, ALIKE, NOUGHT, (((),),), ((UNIT, ()), (UNIT, ()))]


def unit_table(many):
    return tuple(tuple(UNIT if i == j else () for j in range(many)) for i in range(many))


def is_number(polynomial):
    return len(polynomial) == 1


class MendingTest(Case):
    def check_mending(self, model):
        table, better = mending_table(model), mended(model)
        for told in (table, better):
            self.assertIs(is_model(told), True)
            self.assertEqual(len(told), len(model))
        self.assertTrue(is_number(oracles.determinant(table)), model)
        self.assertTrue(oracles.is_sound(oracles.table_product(table, model)), model)
        self.assertTrue(oracles.is_sound(better), model)
        self.assertIs(is_mending(model, table), True)
        return better

    def test_ordinary(self):
        for model in solvable():
            self.check_mending(model)

    def test_mended_has_the_same_motions(self):
        """What is mended is the model times a table with a number as determinant, so both determinants agree."""
        for model in solvable():
            better = self.check_mending(model)
            self.assertEqual(monic(oracles.determinant(better)), monic(oracles.determinant(model)))
            self.assertTrue(is_left_multiple(better, model), model)

    def test_several_steps(self):
        """Each step replaces one row, and W comes down to N."""
        power = ((0, 1),) * 4 + (ONE,)
        far = ((UNIT, power), (power, ((0, 1),) * 8 + (TWO[0],)))
        self.assertEqual(len(oracles.determinant(far)) - 1, 8)
        near = ((UNIT, power), (power, (ONE,) + ((0, 1),) * 7 + (ONE,)))
        self.assertTrue(is_number(oracles.determinant(near)))
        for model in (far, near):
            self.check_mending(model)
        self.assertEqual(oracles.heaviest(oracles.orders(mended(near)))[0], 0)
        source = Random(75)
        for _ in range(10):
            stirred = makers.stirred(source, unit_table(3), 6)
            better = self.check_mending(stirred)
            self.assertEqual(oracles.heaviest(oracles.orders(better))[0], 0)

    def test_sound_models(self):
        for model in (SPRING, ROD, unit_table(3), ((S, ()), ((), S))):
            self.assertTrue(oracles.is_sound(model))
            self.check_mending(model)

    def test_eight_unknowns(self):
        source = Random(76)
        model = tuple(
            tuple(makers.some_polynomial(source, 2 if i == j else 0) if j <= i else () for j in range(8))
            for i in range(8)
        )
        stirred = makers.stirred(source, model, 6)
        table = mending_table(stirred)
        self.assertTrue(is_number(determinant_of(table)))
        self.assertIs(is_mending(stirred, table), True)
        self.assertEqual(len(determinant_of(mended(stirred))), 17)
        self.assertEqual(len(determinant_of(stirred)), 17)


def monic(polynomial):
    numbers = oracles.numbers_of(polynomial)
    return [number / numbers[-1] for number in numbers]


def is_left_multiple(one, other):
    """Whether one table is a table of polynomials times another one, that is solvable."""
    return oracles.factor(other, one) is not None


class IsMendingTest(Case):
    def wanted(self, model, table):
        return is_number(oracles.determinant(table)) and oracles.is_sound(oracles.table_product(table, model))

    def test_some_tables(self):
        source, found = Random(77), {}
        for model in solvable()[:120]:
            many = len(model)
            for table in (
                unit_table(many), mending_table(model), makers.stirred(source, unit_table(many), 2),
                makers.stirred(source, mending_table(model), 1), makers.some_model(source, ((0,) * many,) * many),
                makers.some_model(source, makers.some_pattern(source, many, 1, 4)), ((((),) * many,) * many),
            ):
                wanted = self.wanted(model, table)
                self.assertIs(is_mending(model, table), wanted, (model, table))
                found[wanted, is_number(oracles.determinant(table))] = True
        self.assertEqual(sorted(found), [(False, False), (False, True), (True, True)])

    def test_edges(self):
        self.assertIs(is_mending(SPRING, ((UNIT,),)), True)
        self.assertIs(is_mending(SPRING, (((LESS,),),)), True)
        self.assertIs(is_mending(SPRING, ((((-7, 3),),),)), True)
        self.assertIs(is_mending(SPRING, ((S,),)), False)
        self.assertIs(is_mending(SPRING, (((),),)), False)
        self.assertIs(is_mending(TWINS, unit_table(2)), False)
        self.assertIs(is_mending(TWINS, ((UNIT, ()), ((LESS,), TWO))), False)
        self.assertIs(is_mending(TWINS, ((TWO, ()), ((LESS,), UNIT))), True)
        # The determinant is no number, though what is made is sound.
        self.assertIs(is_mending(TWINS, ((S, ()), ((LESS,), UNIT))), False)
        self.assertIs(is_mending(ROD, ((UNIT, SS, ()), ((), UNIT, ()), ((), (), UNIT))), True)
        self.assertIs(is_mending(ROD, ((UNIT, (), ()), ((), UNIT, ()), (S, (), UNIT))), False)

    def test_other_values(self):
        for model in (SPRING, TWINS, ROD):
            for wrong in wrongs.no_models():
                self.assertIs(is_mending(model, wrong), False)
            for many in (1, 2, 3, 4):
                if many != len(model):
                    self.assertIs(is_mending(model, unit_table(many)), False)
            table = mending_table(model)
            for wrong in wrongs.no_rows(len(model)):
                self.assertIs(is_mending(model, makers.with_row(table, 0, wrong)), False)
            self.assertIs(is_mending(model, list(table)), False)
            self.assertIs(is_mending(model, table + (table[0],)), False)
            self.assertIs(is_mending(model, table[:-1]), False)


class ArgumentsTest(Case):
    def test_not_solvable(self):
        for model in loose():
            for call in (mending_table, mended):
                self.check_error(NotSolvable, call, model)
                self.check_error(NotSolvable, call, model=model)
            for value in (unit_table(len(model)), None, wrongs.Touchy(), ()):
                self.check_error(NotSolvable, is_mending, model, value)
                self.check_error(NotSolvable, is_mending, value=value, model=model)

    def test_wrong_models(self):
        for wrong in wrongs.no_models():
            for call in (mending_table, mended):
                self.check_given(InvalidModel, wrong, call, wrong)
            self.check_given(InvalidModel, wrong, is_mending, wrong, ((UNIT,),))
            self.check_given(InvalidModel, wrong, is_mending, wrong, None)

    def test_names(self):
        for call in (mending_table, mended):
            self.check_names(call, "model")
            self.assertEqual(call(model=TWINS), call(TWINS))
        self.check_names(is_mending, "model", "value")
        self.assertIs(is_mending(value=((UNIT,),), model=SPRING), True)

    def test_home(self):
        for call in (mending_table, mended, is_mending):
            self.check_home(call, module.__name__)


if __name__ == "__main__":
    unittest.main()
