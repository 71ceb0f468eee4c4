"""Points 6 to 9 and 14, and the interface of hiddenties/models.py."""

import unittest
from fractions import Fraction
from random import Random

from hiddenties import models
from hiddenties.errors import InvalidCourses, InvalidModel, InvalidOffsets, NotSolvable
from hiddenties.models import (
    determinant_of, forcings_of, free_starts, is_model, is_pattern, is_solvable, is_sound, leading_numbers, loose_row,
    loose_unknowns, pattern_of,
)
from hiddenties.offsets import least_offsets
from tests import makers, oracles, wrongs
from tests.helps import Case
from tests.makers import ALIKE, LESS, LOOP, NIL, NOUGHT, ONE, ROD, S, SPRING, SS, TWINS, UNIT

OF_MODEL = (pattern_of, determinant_of, is_solvable, free_starts, loose_row, loose_unknowns, is_sound)


def ordinary():
    return makers.some_models(11, 120) + makers.loose_models(12, 25) + makers.weak_models(13, 25)


class FormTest(Case):
    def test_models_are_models(self):
        for model in ordinary() + [SPRING, ROD, TWINS, LOOP, ALIKE, NOUGHT, (((),),), (((NIL, (5, 7)),),)]:
            self.assertIs(is_model(model), True, model)
            self.assertIs(is_pattern(oracles.orders(model)), True, model)

    def test_patterns_are_patterns(self):
        for pattern in makers.some_patterns(14, 80, (1, 2, 3, 4, 8), 12) + [((None,),), ((0,),), ((10 ** 399,),)]:
            self.assertIs(is_pattern(pattern), True, pattern)

    def test_other_values_are_no_models(self):
        for value in wrongs.no_models() + [((0,),), ((0, None), (1, 2)), ((1, 1),), (ONE,), ((ONE,),)]:
            self.assertIs(is_model(value), False, value)

    def test_other_values_are_no_patterns(self):
        for value in wrongs.no_patterns() + [SPRING, TWINS, NOUGHT, ((ONE,),)]:
            self.assertIs(is_pattern(value), False, value)

    def test_each_single_fault_makes_no_model(self):
        for place in range(3):
            for wrong in wrongs.no_rows(3):
                self.assertIs(is_model(makers.with_row(ROD, place, wrong)), False, wrong)
            for column in range(3):
                for wrong in wrongs.no_polynomials():
                    row = ROD[place][:column] + (wrong,) + ROD[place][column + 1:]
                    self.assertIs(is_model(makers.with_row(ROD, place, row)), False, wrong)

    def test_each_single_fault_makes_no_pattern(self):
        for place in range(3):
            for column in range(3):
                for wrong in wrongs.no_entries():
                    row = makers.SWING[place][:column] + (wrong,) + makers.SWING[place][column + 1:]
                    self.assertIs(is_pattern(makers.with_row(makers.SWING, place, row)), False, wrong)

    def test_great_numbers_may_stand(self):
        great = 10 ** 399
        self.assertIs(is_model(((((great + 1, great),),),)), True)
        self.assertIs(is_model(((((great, great),),),)), False)
        self.check_equal(determinant_of(((((-great, 7),),),)), ((-great, 7),))


class TellingTest(Case):
    def test_pattern(self):
        for model in ordinary():
            self.check_equal(pattern_of(model), oracles.orders(model))

    def test_determinant(self):
        for model in ordinary():
            self.check_equal(determinant_of(model), oracles.determinant(model), model)

    def test_determinant_of_high_orders(self):
        for model in makers.some_models(15, 30, (1, 2, 3), 9) + makers.some_models(16, 4, (4,), 9):
            self.check_equal(determinant_of(model), oracles.determinant(model), model)

    def test_determinant_without_its_greatest_powers(self):
        lost = ((S, (NIL, ONE)), ((ONE, ONE), (ONE, ONE)))
        self.check_equal(determinant_of(lost), ())
        self.check_equal(determinant_of(((S, S), ((NIL, NIL, ONE), ((2, 3), NIL, ONE)))), ((0, 1), (2, 3)))
        self.check_equal(determinant_of((((), UNIT), (UNIT, ()))), ((-1, 1),))
        self.check_equal(determinant_of((((), UNIT, ()), ((), (), UNIT), (UNIT, (), ()))), ((1, 1),))

    def test_determinant_of_eight_unknowns(self):
        source, many = Random(17), 8
        diagonal = [makers.some_polynomial(source, source.randint(0, 12)) for _ in range(many)]
        wanted = [Fraction(1)]
        for item in diagonal:
            wanted = oracles.times(wanted, oracles.numbers_of(item))
        model = tuple(tuple(diagonal[i] if i == j else () for j in range(many)) for i in range(many))
        stirred = makers.stirred(source, model, 3)
        self.check_equal(determinant_of(stirred), oracles.polynomial_of(wanted))
        upper = tuple(
            tuple(diagonal[i] if i == j else makers.some_polynomial(source, 12) if i < j else () for j in range(many))
            for i in range(many)
        )
        self.check_equal(determinant_of(upper), oracles.polynomial_of(wanted))
        self.check_equal(free_starts(upper), sum(len(item) - 1 for item in diagonal))

    def test_solvable_and_free_starts(self):
        for model in ordinary():
            wanted = oracles.free_starts(model)
            self.check_equal(is_solvable(model), wanted is not None)
            if wanted is None:
                self.check_error(NotSolvable, free_starts, model)
            else:
                self.check_equal(free_starts(model), wanted)

    def test_there_are_ordinary_models_of_each_kind(self):
        starts = [oracles.free_starts(model) for model in ordinary()]
        self.assertIn(None, starts)
        self.assertIn(0, starts)
        self.assertGreater(max(number for number in starts if number is not None), 3)

    def test_sound(self):
        found = {}
        for model in ordinary():
            wanted = oracles.is_sound(model)
            self.check_equal(is_sound(model), wanted, model)
            found[wanted, oracles.free_starts(model) is None] = True
        self.assertEqual(sorted(found), [(False, False), (False, True), (True, False)])

    def test_edges_of_soundness(self):
        for model, wanted in (
            (SPRING, True), (ROD, True), (TWINS, False), (LOOP, False), (ALIKE, False), (NOUGHT, False),
            ((((),),), False), (((UNIT,),), True), (((UNIT, ()), (UNIT, ())), False), ((((), S), (UNIT, ())), True),
        ):
            self.check_equal(is_sound(model), wanted)


class LooseTest(Case):
    def check_loose(self, model):
        row, unknowns = loose_row(model), loose_unknowns(model)
        if oracles.determinant(model):
            self.assertIsNone(row)
            self.assertIsNone(unknowns)
            return
        for told, table in ((row, model), (unknowns, oracles.turned(model))):
            self.assertIs(is_model((told,) * len(model)), True, told)
            self.assertTrue(any(told), model)
            self.assertEqual(oracles.row_product(told, table), ((),) * len(model), model)

    def test_ordinary(self):
        for model in ordinary():
            self.check_loose(model)

    def test_edges(self):
        half = ((UNIT, ()), (UNIT, ()))
        lone = ((S, UNIT, SS), ((), (), ()), (UNIT, (), S))
        blank = ((S, (), SS), (UNIT, (), S), ((LESS,), (), UNIT))
        same = ((S, SS, UNIT),) * 3
        for model in (LOOP, ALIKE, NOUGHT, (((),),), half, lone, blank, same, (((),) * 4,) * 4):
            self.check_loose(model)

    def test_rows_that_hang_together_at_some_numbers_only(self):
        # At s = 0, 1, 2, .. the two first rows hang together more than they do elsewhere.
        for zeros in range(1, 5):
            item = [Fraction(1)]
            for zero in range(zeros):
                item = oracles.times(item, [Fraction(-zero), Fraction(1)])
            item = oracles.polynomial_of(item)
            model = ((UNIT, UNIT, ()), (UNIT, oracles.polynomial_of(oracles.plus([1], oracles.numbers_of(item))), ()))
            for factors in ((UNIT, UNIT), (S, (LESS,)), ((), UNIT)):
                last = oracles.row_product(factors, model)
                self.check_loose(model + (last,))

    def test_high_orders(self):
        source = Random(18)
        for many in (2, 3, 4, 5):
            pattern = makers.some_pattern(source, many, 9, 2)
            model = makers.some_model(source, pattern)
            factors = [()] + [makers.some_polynomial(source, 2) for _ in range(many - 1)]
            self.check_loose(makers.with_row(model, 0, oracles.row_product(factors, model)))


class ForcingsTest(Case):
    def check_forcings(self, model, courses):
        many, rows = len(courses[0]), []
        for row in model:
            growths = []
            greatest = max([0] + [len(item) - 1 for item in row])
            for k in range(many - greatest):
                total = Fraction(0)
                for item, course in zip(row, courses):
                    for power, number in enumerate(item):
                        total += Fraction(*number) * Fraction(*course[k + power])
                growths.append((total.numerator, total.denominator))
            rows.append(tuple(growths))
        self.check_equal(forcings_of(model, courses), tuple(rows), (model, courses))

    def test_ordinary(self):
        source = Random(19)
        for model in ordinary():
            for told in (0, 1, source.randint(2, 9)):
                courses = tuple(
                    tuple(makers.some_number(source) if source.randrange(4) else NIL for _ in range(told))
                    for _ in model
                )
                self.check_forcings(model, courses)

    def test_without_growths(self):
        self.check_equal(forcings_of(SPRING, ((),)), ((),))
        self.check_equal(forcings_of(NOUGHT, ((), ())), ((), ()))
        self.check_equal(forcings_of(TWINS, ((), ())), ((), ()))

    def test_an_equation_that_mentions_no_unknown(self):
        model = (((), ()), (UNIT, S))
        self.check_equal(forcings_of(model, ((ONE, ONE, ONE), (ONE, ONE, ONE))), ((NIL, NIL, NIL), ((2, 1), (2, 1))))
        self.check_equal(forcings_of((((),),), (((3, 2), ONE),)), ((NIL, NIL),))

    def test_as_many_as_the_orders_settle(self):
        self.check_equal(forcings_of(SPRING, ((ONE, ONE),)), ((),))
        self.check_equal(forcings_of(SPRING, ((ONE, ONE, ONE),)), (((2, 1),),))
        self.check_equal(forcings_of(((SS, UNIT), (UNIT, ())), ((ONE,), (ONE,))), ((), (ONE,)))

    def test_wrong_courses(self):
        for model in (SPRING, TWINS, ROD):
            for wrong in wrongs.no_courses(len(model)):
                self.check_given(InvalidCourses, wrong, forcings_of, model, wrong)
                self.check_given(InvalidCourses, wrong, forcings_of, model=model, courses=wrong)


class LeadingTest(Case):
    def check_leading(self, model, offsets):
        grown, settled = offsets
        wanted = tuple(
            tuple(
                item[settled[j] - grown[i]] if 0 <= settled[j] - grown[i] < len(item) else NIL
                for j, item in enumerate(row)
            )
            for i, row in enumerate(model)
        )
        told = leading_numbers(model, offsets)
        self.check_equal(told, wanted)
        span, whole = sum(settled) - sum(grown), oracles.determinant(model)
        number = whole[span] if 0 <= span < len(whole) else NIL
        self.assertEqual(oracles.number_determinant(told), Fraction(*number))

    def test_ordinary(self):
        source = Random(20)
        for model in ordinary():
            pattern = oracles.orders(model)
            if oracles.all_choices(pattern):
                self.check_leading(model, least_offsets(pattern))
            grown = tuple(source.randint(0, 4) for _ in model)
            self.check_leading(model, (grown, tuple(
                source.choice((0, 0, 1)) + max([0] + [
                    grown[i] + row[j] for i, row in enumerate(pattern) if row[j] is not None
                ]) for j in range(len(model))
            )))

    def test_a_span_below_nought(self):
        model = (((), UNIT), ((), S))
        self.check_leading(model, ((3, 2), (0, 3)))
        self.check_equal(leading_numbers(model, ((3, 2), (0, 3))), ((NIL, ONE), (NIL, ONE)))
        self.check_leading(NOUGHT, ((5, 5), (0, 0)))
        self.check_equal(leading_numbers((((),),), ((9,), (0,))), ((NIL,),))

    def test_a_span_above_every_choice(self):
        self.check_leading(TWINS, ((0, 0), (7, 8)))
        self.check_equal(leading_numbers(TWINS, ((0, 0), (7, 8))), ((NIL, NIL), (NIL, NIL)))
        self.check_leading(SPRING, ((0,), (3,)))

    def test_wrong_offsets(self):
        for model in (SPRING, TWINS, ROD):
            pattern = oracles.orders(model)
            for wrong in wrongs.no_offsets(pattern, least_offsets(pattern)):
                self.check_given(InvalidOffsets, wrong, leading_numbers, model, wrong)
        self.check_given(InvalidOffsets, ((0, 0), (1, 0)), leading_numbers, ((S, S), ((), ())), ((0, 0), (1, 0)))


class ArgumentsTest(Case):
    def test_wrong_models(self):
        for wrong in wrongs.no_models():
            for call in OF_MODEL:
                self.check_given(InvalidModel, wrong, call, wrong)
            self.check_given(InvalidModel, wrong, forcings_of, wrong, ((),))
            self.check_given(InvalidModel, wrong, leading_numbers, wrong, ((0,), (2,)))

    def test_several_wrong_arguments(self):
        for wrong in (None, [SPRING], (((2, 4),),), wrongs.Touchy()):
            self.check_given(InvalidModel, wrong, forcings_of, wrong, None)
            self.check_given(InvalidModel, wrong, leading_numbers, wrong, None)
            self.check_given(InvalidModel, wrong, forcings_of, courses=None, model=wrong)
            self.check_given(InvalidModel, wrong, leading_numbers, offsets=[], model=wrong)

    def test_errors_come_before_what_is_told(self):
        self.check_given(InvalidOffsets, None, leading_numbers, LOOP, None)
        self.check_given(InvalidCourses, (), forcings_of, LOOP, ())

    def test_names(self):
        for call in OF_MODEL:
            self.check_names(call, "model")
            self.assertEqual(repr(call(model=ROD)), repr(call(ROD)))
        self.check_names(is_model, "value")
        self.check_names(is_pattern, "value")
        self.check_names(forcings_of, "model", "courses")
        self.check_names(leading_numbers, "model", "offsets")
        self.assertIs(is_model(value=ROD), True)
        self.assertIs(is_pattern(value=((0,),)), True)
        self.assertEqual(forcings_of(courses=((ONE,),), model=((UNIT,),)), ((ONE,),))
        self.assertEqual(leading_numbers(offsets=((0,), (2,)), model=SPRING), ((ONE,),))

    def test_home(self):
        for call in OF_MODEL + (is_model, is_pattern, forcings_of, leading_numbers):
            self.check_home(call, models.__name__)

    def test_equal_calls_return_equal_results(self):
        for model in ordinary()[:40] + [LOOP, NOUGHT]:
            self.assertEqual(loose_row(model), loose_row(model))
            self.assertEqual(loose_unknowns(model), loose_unknowns(model))


if __name__ == "__main__":
    unittest.main()
