"""Points 19 to 21, and the interface of hiddenties/motions.py."""

import unittest
from random import Random

from hiddenties import motions as module
from hiddenties.errors import InvalidIndex, InvalidModel, InvalidMotion, InvalidNumber, NotSolvable
from hiddenties.motions import all_motions, free_places, grown, growth_at, is_motion
from tests import makers, oracles, wrongs
from tests.helps import Case
from tests.makers import ALIKE, BAR, LESS, LOOP, NIL, NOUGHT, ONE, ROD, S, SPRING, TURN, TWINS, UNIT

MODELS = makers.solvable_models(101, 45)
LOOSE_MODELS = makers.loose_models(102, 10) + [LOOP, ALIKE, NOUGHT, (((),),)]
# In these each lot of free places has another form: all at one unknown, or spread over all.
HIGH = ((S, UNIT, ()), ((), S, UNIT), ((), (), S))


def free_by_greed(model):
    """The free places as point 21 takes them."""
    starts = oracles.free_starts(model)
    space, found = oracles.Space(model, starts + 1), []
    for unknown in reversed(range(len(model))):
        for growth in range(starts + 1):
            if space.rank(found + [(unknown, growth)]) == len(found):
                break
            found.append((unknown, growth))
    return tuple(sorted(found))


class FreePlacesTest(Case):
    def test_ordinary(self):
        for model in MODELS:
            self.check_equal(free_places(model), free_by_greed(model), model)

    def test_many_are_free(self):
        for model in MODELS:
            self.assertEqual(len(free_places(model)), oracles.free_starts(model))

    def test_the_last_unknown_is_taken_first(self):
        self.check_equal(free_places(TURN), ((1, 0), (1, 1)))
        self.check_equal(free_places(((S, ()), (UNIT, UNIT))), ((1, 0),))
        self.check_equal(free_places(((S, ()), ((), UNIT))), ((0, 0),))
        self.check_equal(free_places(HIGH), ((2, 0), (1, 0), (0, 0))[::-1])
        self.check_equal(free_places(tuple(row[::-1] for row in HIGH)), ((2, 0), (2, 1), (2, 2)))

    def test_no_starts(self):
        for model in (ROD, ((UNIT,),), makers.unit_table(3), (((LESS,),),)):
            self.check_equal(free_places(model), ())

    def test_one_unknown(self):
        for order in range(1, 8):
            model = (((NIL,) * order + ((3, 2),),),)
            self.check_equal(free_places(model), tuple((0, k) for k in range(order)))

    def test_eight_unknowns(self):
        model = makers.stirred(Random(103), tuple(
            tuple(S if i == j else UNIT if j < i else () for j in range(8)) for i in range(8)
        ), 5)
        self.assertEqual(len(free_places(model)), 8)
        self.check_equal(free_places(makers.stirred(Random(104), makers.unit_table(8), 9)), ())


class AllMotionsTest(Case):
    def test_each_is_a_motion_with_one_number_at_the_free_places(self):
        for model in MODELS:
            lot, told = free_places(model), all_motions(model)
            self.assertEqual(len(told), len(lot))
            for k, motion in enumerate(told):
                self.assertEqual([len(course) for course in motion], [len(lot)] * len(model))
                self.assertTrue(oracles.is_motion(model, motion), (model, motion))
                numbers = tuple(motion[unknown][growth] for unknown, growth in lot)
                self.check_equal(numbers, tuple(ONE if at == k else NIL for at in range(len(lot))))

    def test_each_motion_is_their_sum_in_one_way(self):
        """What adjoint tables make are motions; read off the free places they are sums of these."""
        for model in MODELS[:40] + [BAR, TURN]:
            lot, told = free_places(model), all_motions(model)
            for motion in oracles.spanning_motions(model, len(lot)):
                for j in range(len(model)):
                    for k in range(len(lot)):
                        weighed = [
                            motion[at[0]][at[1]] * oracles.Fraction(*one[j][k]) for at, one in zip(lot, told)
                        ]
                        self.assertEqual(sum(weighed), motion[j][k])

    def test_by_hand(self):
        # x' = y and y' = - x: with y = 1 and y' = 0, x is 0 and x' is 1.
        self.check_equal(all_motions(TURN), (((NIL, ONE), (ONE, NIL)), ((LESS, NIL), (NIL, ONE))))
        self.check_equal(all_motions(((S,),)), (((ONE,),),))
        self.check_equal(all_motions((((NIL, NIL, ONE),),)), (((ONE, NIL),), ((NIL, ONE),)))

    def test_no_starts(self):
        for model in (ROD, ((UNIT,),), makers.unit_table(3)):
            self.check_equal(all_motions(model), ())


class IsMotionTest(Case):
    def test_told_motions_and_their_sums(self):
        source = Random(105)
        for model in MODELS:
            told = all_motions(model)
            nought = tuple((NIL,) * len(told) for _ in model)
            for motion in told + (nought, makers.mixed_motion(source, told, len(model))[0]):
                self.assertIs(is_motion(model, motion), True)

    def test_one_number_changed(self):
        source, found = Random(106), {}
        for model in MODELS:
            told = all_motions(model)
            motion = makers.mixed_motion(source, told, len(model))[0]
            for j in range(len(model)):
                for k in range(len(told)):
                    course = list(motion[j])
                    course[k] = makers.pair(oracles.Fraction(*course[k]) + 1)
                    changed = motion[:j] + (tuple(course),) + motion[j + 1:]
                    wanted = oracles.is_motion(model, changed)
                    self.assertIs(is_motion(model, changed), wanted, (model, changed))
                    found[wanted] = True
        self.assertEqual(sorted(found), [False, True])

    def test_any_numbers(self):
        source = Random(107)
        for model in MODELS:
            starts = oracles.free_starts(model)
            for _ in range(3):
                motion = tuple(makers.some_fractions(source, starts) for _ in model)
                self.assertIs(is_motion(model, motion), oracles.is_motion(model, motion))
        self.assertIs(is_motion(SPRING, (((7, 3), (-5, 2)),)), True)

    def test_no_starts(self):
        self.assertIs(is_motion(ROD, ((), (), ())), True)
        for wrong in ((), ((), ()), ((), (), (), ()), ((), (), []), ((), (), (NIL,)), ((NIL,),) * 3, [(), (), ()]):
            self.assertIs(is_motion(ROD, wrong), False)

    def test_too_short_and_too_long(self):
        for model in MODELS:
            for motion in all_motions(model):
                further = oracles.further(model, motion, len(motion[0]) + 1)
                self.assertIs(is_motion(model, tuple(oracles_course(course) for course in further)), False)
                self.assertIs(is_motion(model, tuple(course[:-1] for course in motion)), False)
                self.assertIs(is_motion(model, tuple(course[1:] for course in motion)), False)

    def test_other_values(self):
        for model in (SPRING, TWINS, TURN, BAR):
            for motion in all_motions(model):
                for wrong in wrongs.no_motions(motion):
                    self.assertIs(is_motion(model, wrong), False)


def oracles_course(numbers):
    return tuple(makers.pair(number) for number in numbers)


class GrowthTest(Case):
    def test_growths(self):
        source = Random(108)
        for model in MODELS:
            motion = makers.mixed_motion(source, all_motions(model), len(model))[0]
            further = oracles.further(model, motion, 41)
            for order in (0, 1, 2, 3, 7, 20, 40):
                unknown = source.randrange(len(model))
                self.check_equal(growth_at(model, motion, unknown, order), makers.pair(further[unknown][order]))

    def test_grown(self):
        source = Random(109)
        for model in MODELS:
            motion = makers.mixed_motion(source, all_motions(model), len(model))[0]
            further = oracles.further(model, motion, len(motion[0]) + 1)
            self.check_equal(grown(model, motion), tuple(oracles_course(course[1:]) for course in further))
            self.assertIs(is_motion(model, grown(model, motion)), True)

    def test_by_hand(self):
        falling = ((2, 1), (-1, 2))
        model = (((NIL, NIL, (5, 3)),),)
        self.check_equal(growth_at(model, (falling,), 0, 1), (-1, 2))
        self.check_equal(growth_at(model, (falling,), 0, 2), NIL)
        self.check_equal(grown(model, (falling,)), (((-1, 2), NIL),))
        # Each growth is half the one before.
        self.check_equal(growth_at((((ONE, (-2, 1)),),), ((ONE,),), 0, 40), (1, 2 ** 40))
        self.check_equal(growth_at((((ONE, (2, 1)),),), (((3, 1),),), 0, 3), (-3, 8))
        self.check_equal(grown(ROD, ((), (), ())), ((), (), ()))
        self.check_equal(growth_at(ROD, ((), (), ()), 2, 0), NIL)
        self.check_equal(growth_at(ROD, ((), (), ()), 0, 40), NIL)


class ArgumentsTest(Case):
    def calls(self, model, motion):
        return (
            (is_motion, {"model": model, "value": motion}), (free_places, {"model": model}),
            (all_motions, {"model": model}), (grown, {"model": model, "motion": motion}),
            (growth_at, {"model": model, "motion": motion, "unknown": 0, "order": 40}),
        )

    def test_names(self):
        for call, right in self.calls(SPRING, ((ONE, NIL),)):
            self.check_right(call, right, module)

    def test_wrong_models(self):
        for call, right in self.calls(SPRING, ((ONE, NIL),)):
            for wrong in wrongs.no_models():
                self.check_given(InvalidModel, wrong, call, **{**right, "model": wrong})
            for loose in LOOSE_MODELS:
                self.check_error(NotSolvable, call, **{**right, "model": loose})

    def test_wrong_motions(self):
        for model in (SPRING, TURN, BAR, TWINS):
            for motion in all_motions(model)[:1]:
                for wrong in wrongs.no_motions(motion):
                    self.check_given(InvalidMotion, wrong, grown, model, wrong)
                    self.check_given(InvalidMotion, wrong, growth_at, model, wrong, 0, 0)
        wrong = ((ONE,), (ONE,))
        self.check_given(InvalidMotion, wrong, grown, TWINS, wrong)
        self.check_given(InvalidMotion, wrong, growth_at, model=TWINS, motion=wrong, unknown=0, order=0)

    def test_wrong_indexes_and_numbers(self):
        motion = all_motions(TURN)[0]
        for wrong in wrongs.no_indexes(2):
            self.check_given(InvalidIndex, wrong, growth_at, TURN, motion, wrong, 0)
        for wrong in wrongs.no_numbers_to(0, 40):
            self.check_given(InvalidNumber, wrong, growth_at, TURN, motion, 1, wrong)

    def test_turns(self):
        motion, none = all_motions(TURN)[0], ((ONE, NIL), (ONE, NIL))
        for call, right in self.calls(TURN, motion):
            self.check_turns(call, right, {
                "model": wrongs.MODEL_TURNS,
                "motion": [(None, InvalidMotion, (None,)), (none, InvalidMotion, (none,))],
                "unknown": [(-1, InvalidIndex, (-1,)), (2, InvalidIndex, (2,)), (True, InvalidIndex, (True,))],
                "order": [(41, InvalidNumber, (41,)), (False, InvalidNumber, (False,))],
            })


if __name__ == "__main__":
    unittest.main()
