"""Point 24, and the interface of hiddenties/alikes.py."""

import unittest
from random import Random

from hiddenties import alikes as module
from hiddenties.alikes import are_alike, change_between, factor_between, is_within, parting_motion
from hiddenties.errors import InvalidModel, NotSolvable, UnlikeSizes
from hiddenties.mended import mended
from hiddenties.models import determinant_of
from hiddenties.motions import all_motions, is_motion
from tests import makers, oracles, wrongs
from tests.helps import Case
from tests.makers import ALIKE, BAR, EVEN, LESS, LOOP, LOOSE, NIL, NOUGHT, ONE, ROD, S, SLACK, SPRING, SS, TURN, TWINS
from tests.makers import TWO, UNIT

MODELS = makers.solvable_models(121, 40)
LOOSE_MODELS = makers.loose_models(122, 8) + [LOOP, ALIKE, NOUGHT, (((),),)]
CALLS = (are_alike, is_within, factor_between, change_between, parting_motion)


def times_some(source, model, greatest):
    """A solvable model that some table makes of this one, and the table."""
    while True:
        many = len(model)
        table = tuple(makers.some_row(source, many, greatest) for _ in range(many))
        if oracles.determinant(table):
            return oracles.table_product(table, model), table


def is_number(polynomial):
    return len(polynomial) == 1


class AlikesTest(Case):
    def check_pair(self, model, other):
        """All five tell what the factors both ways round tell, by the adjoint tables."""
        there, back = oracles.factor(model, other), oracles.factor(other, model)
        alike = there is not None and is_number(oracles.determinant(there))
        self.assertEqual(alike, there is not None and back is not None)
        for one, two, factor in ((model, other, there), (other, model, back)):
            self.assertIs(are_alike(one, two), alike, (one, two))
            self.assertIs(is_within(one, two), factor is not None, (one, two))
            self.check_equal(factor_between(one, two), factor, (one, two))
            self.check_equal(change_between(one, two), factor if alike else None, (one, two))
            self.check_parting(one, two, alike)
        return (there is not None, back is not None)

    def check_parting(self, model, other, alike):
        told = parting_motion(model, other)
        if alike:
            self.assertIsNone(told)
            return
        self.assertIs(type(told), tuple)
        index, motion = told
        self.assertIn(index, (0, 1))
        self.assertIs(type(index), int)
        own, beside = (model, other) if index == 0 else (other, model)
        self.assertTrue(oracles.is_motion(own, motion))
        self.assertEqual([len(course) for course in motion], [oracles.free_starts(own)] * len(own))
        longest = max(len(item) for row in beside for item in row)
        further = oracles.further(own, motion, oracles.free_starts(own) + longest)
        led = [oracles.led_at(row, further, k) for row in beside for k in range(oracles.free_starts(own))]
        self.assertTrue(any(number != 0 for number in led), (model, other))

    def test_alike(self):
        source = Random(123)
        for model in MODELS:
            other = makers.stirred(source, model, 2)
            self.assertEqual(self.check_pair(model, other), (True, True))
            self.assertTrue(is_number(determinant_of(change_between(model, other))))

    def test_multiples(self):
        source, found = Random(124), {}
        for model in MODELS:
            other, table = times_some(source, model, 1)
            found[self.check_pair(model, other)] = True
            self.check_equal(factor_between(model, other), table)
        self.assertEqual(sorted(found), [(True, False), (True, True)])

    def test_one_number_changed(self):
        source, found = Random(125), {}
        for model in MODELS:
            other = makers.stirred(source, model, 1)
            place = source.randrange(len(model))
            other = makers.with_row(other, place, makers.with_one_changed(source, other[place]))
            if oracles.determinant(other):
                found[self.check_pair(model, other)] = True
        self.assertIn((False, False), found)

    def test_any_pairs(self):
        source, found = Random(126), {}
        for many in (1, 2, 3):
            models = [model for model in MODELS if len(model) == many]
            for _ in range(12):
                found[self.check_pair(source.choice(models), source.choice(models))] = True
        self.assertIn((False, False), found)
        self.assertGreater(len(found), 1)

    def test_themselves_and_what_is_mended(self):
        for model in MODELS:
            unit = makers.unit_table(len(model))
            self.check_equal(change_between(model, model), unit)
            self.check_equal(factor_between(model, model), unit)
            self.assertIs(are_alike(model, mended(model)), True)

    def test_no_starts(self):
        """Models without motions but nought are alike, and within each other one."""
        for model in (ROD, ((UNIT, S, SS), ((), TWO, S), ((), (), (LESS,))), makers.unit_table(3)):
            self.assertEqual(self.check_pair(model, makers.unit_table(3)), (True, True))
            self.assertEqual(self.check_pair(model, BAR), (True, False))

    def test_by_hand(self):
        self.assertEqual(self.check_pair(TWINS, EVEN), (True, True))
        self.assertEqual(self.check_pair(TWINS, SLACK), (True, False))
        self.assertEqual(self.check_pair(TURN, SLACK), (False, False))
        # The same number of free starts, but other motions.
        self.assertEqual(self.check_pair(((S,),), (((ONE, ONE),),)), (False, False))
        self.assertEqual(self.check_pair(((S,),), ((SS,),)), (True, False))
        self.assertEqual(self.check_pair(((S,),), (((NIL, (-3, 7)),),)), (True, True))
        self.assertEqual(self.check_pair(BAR, LOOSE), (True, False))
        self.assertEqual(self.check_pair(SLACK, SLACK[::-1]), (True, True))
        self.assertEqual(self.check_pair(((S, ()), ((), UNIT)), ((UNIT, ()), ((), S))), (False, False))
        self.check_equal(parting_motion(((S,),), ((UNIT,),)), (0, ((ONE,),)))
        self.check_equal(parting_motion(((UNIT,),), ((S,),)), (1, ((ONE,),)))

    def test_eight_unknowns(self):
        source = Random(127)
        model = makers.wide_model(source)
        other = makers.stirred(source, model, 8)
        table = change_between(model, other)
        self.assertEqual(oracles.table_product(table, model), other)
        self.assertTrue(is_number(determinant_of(table)))
        self.assertIs(are_alike(other, model), True)
        twice = makers.with_row(other, 2, tuple((NIL,) + item if item else () for item in other[2]))
        self.assertEqual((is_within(model, twice), is_within(twice, model)), (True, False))
        index, motion = parting_motion(model, twice)
        self.assertEqual(index, 1)
        self.assertIs(is_motion(twice, motion), True)


class ArgumentsTest(Case):
    def test_names(self):
        for call in CALLS:
            self.check_names(call, "model", "other")
            self.check_home(call, module.__name__)
            self.assertEqual(call(other=SLACK, model=TWINS), call(TWINS, SLACK))

    def test_wrong_models(self):
        for call in CALLS:
            for wrong in wrongs.no_models():
                self.check_given(InvalidModel, wrong, call, wrong, TWINS)
                self.check_given(InvalidModel, wrong, call, TWINS, wrong)
            for loose in LOOSE_MODELS:
                self.check_error(NotSolvable, call, loose, TWINS)
                self.check_error(NotSolvable, call, TWINS, loose)

    def test_unlike_sizes(self):
        for call in CALLS:
            for model, other in ((SPRING, TWINS), (TWINS, SPRING), (BAR, TURN), (TURN, BAR), (ROD, ((UNIT,),))):
                self.check_error(UnlikeSizes, call, model, other)
                self.check_error(UnlikeSizes, call, other=other, model=model)

    def test_turns(self):
        for call in CALLS:
            wrong = {"model": wrongs.MODEL_TURNS, "other": wrongs.MODEL_TURNS}
            last = ({"other": SPRING}, UnlikeSizes), ({"model": BAR}, UnlikeSizes)
            self.check_turns(call, {"model": TWINS, "other": SLACK}, wrong, last)

    def test_what_is_told_is_passed_on(self):
        """Tables and motions that were told are right arguments themselves."""
        for model in (TWINS, TURN, BAR, SPRING):
            table = factor_between(model, model)
            self.assertIs(are_alike(table, table), True)
            for motion in all_motions(model):
                self.assertIs(is_motion(model, motion), True)


if __name__ == "__main__":
    unittest.main()
