"""Point 29, and the interface of hiddenties/plains.py."""

import unittest
from random import Random

from hiddenties import plains as module
from hiddenties.errors import InvalidModel, NotSolvable
from hiddenties.mended import mended
from hiddenties.plains import is_plain, plain_lot, plain_model
from hiddenties.states import first_state_lot, is_state_lot
from tests import makers, oracles, wrongs
from tests.helps import Case
from tests.makers import ALIKE, BAR, HALF, LESS, LOOP, LOOSE, NIL, NOUGHT, ONE, ROD, S, SPRING, SS, TURN, TWINS, TWO
from tests.makers import UNIT

MODELS = makers.solvable_models(151, 60)
LOOSE_MODELS = makers.loose_models(152, 20) + [LOOP, ALIKE, NOUGHT, (((),),), ((UNIT, ()), (UNIT, ()))]


def is_plain_by_words(model):
    """Point 29 word for word."""
    many = range(len(model))
    for j in many:
        if not model[j][j] or model[j][j][-1] != ONE:
            return False
    degrees = [len(model[j][j]) - 1 for j in many]
    for j in many:
        for i in many:
            if i == j:
                continue
            for k, number in enumerate(model[j][i]):
                if number[0] == 0:
                    continue
                if not k < degrees[i]:
                    return False
                if i < j and not k <= degrees[j] or i > j and not k < degrees[j]:
                    return False
    return True


def in_order_of_growths(many, growths):
    return tuple((unknown, growth) for growth in range(growths) for unknown in range(many))


class PlainModelTest(Case):
    def check_plain(self, model):
        plain = plain_model(model)
        self.assertTrue(is_plain_by_words(plain), model)
        self.assertIs(is_plain(plain), True)
        table = oracles.factor(model, plain)
        self.assertIsNotNone(table, model)
        self.assertEqual(len(oracles.determinant(table)), 1)
        self.check_equal(plain, plain)
        self.check_equal(plain_model(plain), plain)
        return plain

    def test_ordinary(self):
        for model in MODELS:
            plain = self.check_plain(model)
            greatest = max(len(item) for row in model for item in row)
            self.assertLessEqual(max(len(item) for row in plain for item in row), greatest)
            self.assertEqual(sum(len(row[k]) - 1 for k, row in enumerate(plain)), oracles.free_starts(model))
            self.assertTrue(oracles.is_sound(plain))

    def test_alike_models_have_the_same(self):
        source = Random(153)
        for model in MODELS:
            plain = plain_model(model)
            self.check_equal(plain_model(makers.stirred(source, model, 3)), plain)
            self.check_equal(plain_model(mended(model)), plain)
            self.check_equal(plain_model(model[::-1]), plain)
            self.check_equal(plain_model(tuple(tuple(tripled(item) for item in row) for row in model)), plain)

    def test_numbers_as_determinant(self):
        """Tables with a number as determinant have the unit table as their plain model."""
        source = Random(154)
        for many in (1, 2, 3, 4):
            table = makers.stirred(source, makers.unit_table(many), 3 * many)
            self.check_equal(plain_model(table), makers.unit_table(many))
            self.check_equal(plain_lot(table), ())
        self.check_equal(plain_model(ROD), makers.unit_table(3))

    def test_led_by_tables_with_a_number_as_determinant(self):
        """A plain model led by such a table has the plain model as its own."""
        source = Random(155)
        for model in MODELS:
            plain = plain_model(model)
            table = makers.stirred(source, makers.unit_table(len(model)), 4)
            self.check_equal(plain_model(oracles.table_product(table, plain)), plain)

    def test_by_hand(self):
        self.check_equal(plain_model(SPRING), SPRING)
        self.check_equal(plain_model((((NIL, (-4, 3)),),)), ((S,),))
        self.check_equal(plain_model(TURN), TURN)
        self.check_equal(plain_model(LOOSE), LOOSE)
        self.check_equal(plain_model(BAR), ((SS, (), ()), (HALF, UNIT, ()), ((), (), UNIT)))
        # x' = y' / 2: growths of one kind are told by those of lesser unknowns.
        self.check_equal(plain_model(((S, (NIL, (-1, 2))), ((), SS))), (
            (SS, ()), ((NIL, (-2, 1)), S),
        ))

    def test_eight_unknowns(self):
        source = Random(156)
        model = tuple(
            tuple(makers.some_polynomial(source, 2 if i == j else 0) if j <= i else () for j in range(8))
            for i in range(8)
        )
        plain = plain_model(model)
        self.assertTrue(is_plain_by_words(plain))
        self.check_equal(plain_model(makers.stirred(source, model, 12)), plain)

    def test_orders_up_to_twelve(self):
        source = Random(157)
        model = ((makers.some_polynomial(source, 9), UNIT), (TWO, makers.some_polynomial(source, 7)))
        self.check_plain(makers.stirred(source, model, 3))


def tripled(polynomial):
    return oracles.polynomial_of([number * oracles.Fraction(-7, 3) for number in oracles.numbers_of(polynomial)])


class PlainLotTest(Case):
    def test_by_greed_in_the_order_of_growths(self):
        for model in MODELS:
            greatest = max(len(item) for row in model for item in row)
            places = in_order_of_growths(len(model), greatest)
            taken = oracles.Space(model, greatest).taken(places)
            self.check_equal(plain_lot(model), tuple(sorted(places[k] for k in taken)), model)
            self.check_equal(plain_lot(model), first_state_lot(model, places))
            self.assertIs(is_state_lot(model, plain_lot(model)), True)

    def test_places_below_the_degrees(self):
        for model in MODELS:
            plain = plain_model(model)
            wanted = tuple((k, growth) for k, row in enumerate(plain) for growth in range(len(row[k]) - 1))
            self.check_equal(plain_lot(model), wanted)

    def test_by_hand(self):
        self.check_equal(plain_lot(ROD), ())
        self.check_equal(plain_lot(TWINS), ((0, 0),))
        self.check_equal(plain_lot(TURN), ((0, 0), (1, 0)))
        self.check_equal(plain_lot(LOOSE), ((0, 0), (0, 1), (1, 0), (1, 1)))
        self.check_equal(plain_lot(((S, (LESS,)), ((), S))), ((0, 0), (1, 0)))
        self.check_equal(plain_lot(((SS, (LESS,)), ((), UNIT))), ((0, 0), (0, 1)))


class IsPlainTest(Case):
    def test_plain_models_and_changed_ones(self):
        source, found = Random(158), {}
        for model in MODELS:
            plain = plain_model(model)
            for _ in range(4):
                place = source.randrange(len(plain))
                changed = makers.with_row(plain, place, makers.with_one_changed(source, plain[place]))
                wanted = is_plain_by_words(changed)
                self.assertIs(is_plain(changed), wanted, changed)
                found[wanted] = True
            self.assertIs(is_plain(model), is_plain_by_words(model))
        self.assertEqual(len(found), 2)

    def test_each_spot_at_its_limit(self):
        """Numbers at the greatest powers that may stand somewhere, and at the next ones."""
        for degrees in ((2, 1, 3), (0, 0, 0), (1, 1, 1), (3, 0, 2), (1, 2, 2)):
            base = tuple(
                tuple((NIL,) * degree + (ONE,) if i == j else () for i, _ in enumerate(degrees))
                for j, degree in enumerate(degrees)
            )
            self.assertIs(is_plain(base), True)
            for j in range(3):
                for i in range(3):
                    for power in range(5):
                        model = makers.with_row(base, j, makers.with_row(base[j], i, (NIL,) * power + (ONE,)))
                        self.assertIs(is_plain(model), is_plain_by_words(model), model)

    def test_last_numbers(self):
        for number, wanted in ((ONE, True), (LESS, False), ((2, 1), False), ((1, 2), False)):
            self.assertIs(is_plain((((NIL, number),),)), wanted)
            self.assertIs(is_plain((((number,),),)), wanted)
        self.assertIs(is_plain(((S, (), ()), ((), (), UNIT), ((), UNIT, ()))), False)

    def test_not_solvable(self):
        for model in LOOSE_MODELS:
            self.assertIs(is_plain(model), False)

    def test_other_values(self):
        for wrong in wrongs.no_models():
            self.assertIs(is_plain(wrong), False)
        self.assertIs(is_plain([[S]]), False)
        self.assertIs(is_plain((((NIL, (1, True)),),)), False)
        self.assertIs(is_plain((((NIL, (True, 1)),),)), False)


class ArgumentsTest(Case):
    def test_names(self):
        for call in (plain_model, plain_lot):
            self.check_names(call, "model")
            self.assertEqual(call(model=BAR), call(BAR))
        self.check_names(is_plain, "value")
        self.assertIs(is_plain(value=TURN), True)
        for call in (plain_model, plain_lot, is_plain):
            self.check_home(call, module.__name__)

    def test_wrong_models(self):
        for call in (plain_model, plain_lot):
            for wrong in wrongs.no_models():
                self.check_given(InvalidModel, wrong, call, wrong)
                self.check_given(InvalidModel, wrong, call, model=wrong)
            for loose in LOOSE_MODELS:
                self.check_error(NotSolvable, call, loose)


if __name__ == "__main__":
    unittest.main()
