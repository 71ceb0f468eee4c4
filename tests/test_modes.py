"""Point 33, and the interface of hiddenties/modes.py."""

import unittest
from itertools import combinations
from random import Random

from hiddenties import modes as module
from hiddenties.errors import InvalidLot, InvalidModel, InvalidMotion, NotSolvable, UnlikeSizes
from hiddenties.mended import mended
from hiddenties.modes import carries_driven, carries_over, goes_on, gone_on, kept_places, lost_tie
from hiddenties.motions import all_motions
from hiddenties.plains import plain_model
from hiddenties.starts import course_with, start_word
from hiddenties.states import settles, ties_on
from tests import makers, oracles, wrongs
from tests.helps import Case
from tests.makers import ALIKE, BAR, HALF, LOOP, LOOSE, NIL, NOUGHT, ONE, ROD, S, SLACK, SPRING, TURN, TWINS, UNIT

MODELS = makers.solvable_models(221, 36)
LOOSE_MODELS = makers.loose_models(222, 8) + [LOOP, ALIKE, NOUGHT, (((),),)]
ON_LOTS = (carries_over, lost_tie, carries_driven, kept_places)
ON_MOTIONS = (goes_on, gone_on)
BOTH = ((0, 0), (0, 1), (1, 0), (1, 1))
FLIGHT = (((2, 1), ONE, NIL, NIL), ((-1, 1), NIL, NIL, NIL), (NIL, NIL, NIL, NIL))
PAIRS = makers.some_pairs(223, MODELS)


class Read:
    """What the motions of two models let read off at a lot, without ties."""

    def __init__(self, model, other, lot):
        many = 1 + max([growth for _, growth in lot], default=0)
        self.first = self.vectors(oracles.spanning_motions(model, many), lot)
        self.second = self.vectors(oracles.spanning_motions(other, many), lot)
        self.rank = oracles.rank(self.second)
        self.starts = oracles.free_starts(other)

    def vectors(self, motions, lot):
        return [[motion[unknown][growth] for unknown, growth in lot] for motion in motions]

    def carries(self):
        return oracles.rank(self.second + self.first) == self.rank

    def word(self, numbers):
        if oracles.rank(self.second + [numbers]) > self.rank:
            return "none"
        return "one" if self.rank == self.starts else "many"


def some_lots(source, model):
    many = len(model)
    return [()] + [makers.some_lot(source, many, source.randint(1, 5), source.choice((1, 2, 3))) for _ in range(2)]


def some_forcings(source, many):
    return tuple(makers.some_fractions(source, 6) for _ in range(many))


class CarriesTest(Case):
    def check_pair(self, model, other, lot):
        told, about = Read(model, other, lot), (model, other, lot)
        carries = told.carries()
        self.assertIs(carries_over(model, other, lot), carries, about)
        lost = [row for row in ties_on(other, lot) if oracles.paper(model, row) is None]
        self.check_equal(lost_tie(model, other, lot), lost[0] if lost else None, about)
        self.assertEqual(carries, not lost, about)
        self.check_driven(model, other, lot, carries)
        self.check_kept(model, other, lot)
        return carries, settles(other, lot)

    def check_driven(self, model, other, lot, carries):
        driven = all(
            oracles.row_product(oracles.paper(other, row), model) == row for row in ties_on(other, lot)
        )
        self.assertIs(carries_driven(model, other, lot), driven, (model, other, lot))
        # Without forcings it would carry over, too.
        self.assertFalse(driven and not carries)

    def check_kept(self, model, other, lot):
        kept = ()
        for place in lot:
            if Read(model, other, kept + (place,)).carries():
                kept += (place,)
        self.check_equal(kept_places(model, other, lot), kept, (model, other, lot))
        self.assertIs(carries_over(model, other, kept), True)
        self.assertEqual(kept == lot, carries_over(model, other, lot))

    def test_ordinary(self):
        source, found = Random(224), {}
        for model, other in PAIRS:
            for lot in some_lots(source, model):
                found[self.check_pair(model, other, lot)] = True
        self.assertEqual(len(found), 4)

    def test_lost_ties(self):
        """It lies on the lot, is a tie of the other one and none of the first one, and so some motion loses it."""
        source, seen = Random(225), 0
        for model, other in PAIRS:
            lot = makers.some_lot(source, len(model), 6, 3)
            row = lost_tie(model, other, lot)
            if row is None:
                continue
            seen += 1
            self.assertTrue(set(oracles.places_of(row)) <= set(lot))
            self.assertIsNotNone(oracles.paper(other, row))
            self.assertIsNone(oracles.paper(model, row))
            words = [goes_on(model, motion, other, lot) for motion in all_motions(model)]
            self.assertIn("none", words)
        self.assertGreater(seen, 40)

    def test_alike_models(self):
        source = Random(226)
        for model in MODELS:
            for other in (model, makers.stirred(source, model, 1), mended(model), plain_model(model)):
                lot = makers.some_lot(source, len(model), 5, 3)
                self.assertIs(carries_over(model, other, lot), True)
                self.check_equal(kept_places(model, other, lot), lot)
                self.check_equal(lost_tie(model, other, lot), None)
            self.assertIs(carries_driven(model, model, lot), True)

    def test_one_way_only(self):
        source, seen = Random(227), 0
        for model in MODELS:
            wider = makers.times_row(source, model)
            greatest = max(len(item) for row in wider for item in row)
            lot = tuple((unknown, growth) for unknown in range(len(model)) for growth in range(greatest))
            self.assertIs(carries_over(model, wider, lot), True)
            seen += not carries_over(wider, model, lot)
        self.assertGreater(seen, 20)

    def test_lots_within(self):
        """What carries over at a lot does so at each lot within it, driven or not."""
        source, seen = Random(228), 0
        for model, other in PAIRS[::3]:
            lot = makers.some_lot(source, len(model), 4, 2)
            for call in (carries_over, carries_driven):
                if call(model, other, lot):
                    seen += 1
                    for size in range(len(lot)):
                        for part in combinations(lot, size):
                            self.assertIs(call(model, other, part), True)
        self.assertGreater(seen, 30)

    def test_empty_lots(self):
        for model, other in PAIRS[::2]:
            self.assertIs(carries_over(model, other, ()), True)
            self.assertIs(carries_driven(model, other, ()), True)
            self.check_equal(lost_tie(model, other, ()), None)
            self.check_equal(kept_places(model, other, ()), ())

    def test_by_hand(self):
        self.assertIs(carries_over(BAR, LOOSE, BOTH), True)
        self.check_equal(lost_tie(LOOSE, BAR, BOTH), (HALF, UNIT, ()))
        self.check_equal(kept_places(LOOSE, BAR, BOTH), ((0, 0), (0, 1)))
        self.check_equal(kept_places(LOOSE, BAR, ((0, 0), (1, 0), (1, 1), (2, 0))), ((0, 0), (1, 1), (2, 0)))
        # z is nought in motions of both, but led by unlike forcings.
        self.assertIs(carries_over(BAR, LOOSE, ((2, 0),)), True)
        self.assertIs(carries_driven(BAR, LOOSE, ((2, 0),)), False)
        self.assertIs(carries_driven(LOOSE, BAR, ((0, 0), (0, 1))), True)
        self.check_equal(kept_places(SPRING, (((NIL, ONE),),), ((0, 0), (0, 1), (0, 2))), ((0, 0),))
        self.check_equal(lost_tie(SPRING, (((NIL, ONE),),), ((0, 0), (0, 1), (0, 2))), (S,))
        # The first one has no motion but nought, so all carries over.
        self.assertIs(carries_over(ROD, BAR, BOTH + ((2, 0), (2, 1))), True)
        self.assertIs(carries_over(BAR, ROD, ((2, 0),)), True)
        self.check_equal(lost_tie(BAR, ROD, BOTH), (UNIT, (), ()))
        self.check_equal(kept_places(BAR, ROD, ((0, 0), (1, 0), (2, 0), (2, 1))), ((2, 0), (2, 1)))

    def test_far_growths(self):
        lot = ((0, 0), (0, 40), (1, 39))
        self.check_pair(TURN, SLACK, lot)
        self.check_pair(SLACK, TURN, lot)
        self.check_pair(SPRING, (((ONE, ONE),),), ((0, 1), (0, 40)))

    def test_eight_unknowns(self):
        source = Random(229)
        model = makers.wide_model(source, 3)
        other = makers.with_row(model, 7, tuple((NIL,) + item if item else () for item in model[7]))
        lot = tuple((unknown, growth) for unknown in range(8) for growth in range(2))
        self.assertIs(carries_over(model, other, lot), True)
        self.assertIs(carries_over(other, model, lot), False)
        kept = kept_places(other, model, lot)
        self.assertIs(carries_over(other, model, kept), True)
        self.assertNotEqual(kept, lot)


class DrivenTest(Case):
    def goes_with(self, model, other, lot, forcings, source):
        """Whether some solution of the first one goes on in some of the other one, with these forcings."""
        state = plain_state_lot(model)
        numbers = makers.some_fractions(source, len(state))
        courses = course_with(model, state, numbers, forcings, 12)
        told = tuple(courses[unknown][growth] for unknown, growth in lot)
        return start_word(other, lot, told, forcings) != "none"

    def test_solutions(self):
        """If it carries over with forcings all solutions go on; otherwise some of those drawn do not."""
        source, found = Random(230), {}
        for model, other in PAIRS[::2]:
            lot = makers.some_lot(source, len(model), 3, 2)
            driven = carries_driven(model, other, lot)
            ways = [
                self.goes_with(model, other, lot, some_forcings(source, len(model)), source) for _ in range(4)
            ]
            self.assertEqual(all(ways), driven, (model, other, lot))
            found[driven, carries_over(model, other, lot)] = True
        self.assertEqual(sorted(found), [(False, False), (False, True), (True, True)])

    def test_alike_models_that_are_driven_otherwise(self):
        """The same motions, but the second equation is forced by twice as much."""
        model, other = ((UNIT, ()), ((), UNIT)), ((UNIT, ()), ((), HALF))
        self.assertIs(carries_over(model, other, ((0, 0), (1, 0))), True)
        self.assertIs(carries_driven(model, other, ((0, 0),)), True)
        self.assertIs(carries_driven(model, other, ((1, 0),)), False)


def plain_state_lot(model):
    """The state lot of the plain model."""
    plain = plain_model(model)
    return tuple((j, k) for j, row in enumerate(plain) for k in range(len(row[j]) - 1))


class GoesOnTest(Case):
    def numbers_at(self, model, motion, lot):
        many = 1 + max([growth for _, growth in lot], default=0)
        courses = oracles.further(model, motion, max(many, oracles.free_starts(model)))
        return [courses[unknown][growth] for unknown, growth in lot]

    def check_motion(self, model, motion, other, lot):
        numbers, about = self.numbers_at(model, motion, lot), (model, motion, other, lot)
        word = Read(model, other, lot).word(numbers)
        self.assertEqual(goes_on(model, motion, other, lot), word, about)
        told = gone_on(model, motion, other, lot)
        if word != "one":
            self.assertIsNone(told, about)
            return word
        self.check_equal(told, told)
        self.assertEqual([len(course) for course in told], [oracles.free_starts(other)] * len(other))
        self.assertTrue(oracles.is_motion(other, told), about)
        self.assertEqual(self.numbers_at(other, told, lot), numbers, about)
        return word

    def test_ordinary(self):
        source, found = Random(231), {}
        for model, other in PAIRS:
            motions = all_motions(model)
            for lot in some_lots(source, model):
                motion, _ = makers.mixed_motion(source, motions, len(model))
                found[self.check_motion(model, motion, other, lot)] = True
        self.assertEqual(sorted(found), ["many", "none", "one"])

    def test_what_carries_over(self):
        """Each motion goes on then, in just one way exactly if the lot settles the other one."""
        source, found = Random(232), {}
        for model, other in PAIRS[1::3]:
            lot = kept_places(model, other, makers.some_lot(source, len(model), 6, 3))
            word = "one" if settles(other, lot) else "many"
            for motion in all_motions(model):
                self.assertEqual(self.check_motion(model, motion, other, lot), word)
                found[word] = True
        self.assertEqual(len(found), 2)

    def test_the_same_model(self):
        for model in MODELS:
            lot = plain_state_lot(model)
            for motion in all_motions(model):
                self.check_equal(gone_on(model, motion, model, lot), motion)

    def test_edges(self):
        self.assertEqual(goes_on(ROD, ((), (), ()), ROD, ()), "one")
        self.check_equal(gone_on(ROD, ((), (), ()), ROD, ()), ((), (), ()))
        self.assertEqual(goes_on(BAR, all_motions(BAR)[0], ROD, ()), "one")
        self.check_equal(gone_on(BAR, all_motions(BAR)[0], ROD, ()), ((), (), ()))
        self.assertEqual(goes_on(ROD, ((), (), ()), BAR, ()), "many")
        self.check_equal(gone_on(ROD, ((), (), ()), BAR, ((0, 0), (0, 1))), ((NIL, NIL),) * 3)
        self.assertEqual(goes_on(LOOSE, FLIGHT, BAR, BOTH), "none")
        self.assertIsNone(gone_on(LOOSE, FLIGHT, BAR, ((0, 0), (1, 0))))

    def test_far_growths(self):
        motion = ((ONE, (2, 1)), ((2, 1), (-1, 1)))
        for lot in (((0, 40),), ((0, 39), (1, 40)), ((1, 0), (1, 39))):
            self.check_motion(TURN, motion, SLACK, lot)
            self.check_motion(TURN, motion, TURN, lot)


class ArgumentsTest(Case):
    def calls(self, model, motion, other, lot):
        told = {"model": model, "other": other, "lot": lot}
        return [(call, told) for call in ON_LOTS] + [
            (call, {"model": model, "motion": motion, "other": other, "lot": lot}) for call in ON_MOTIONS
        ]

    def right(self):
        return self.calls(TURN, ((ONE, NIL), (NIL, (-1, 1))), SLACK, ((0, 0), (1, 0)))

    def test_names(self):
        for call, right in self.right():
            self.check_right(call, right, module)

    def test_wrong_models(self):
        for call, right in self.right():
            for name in ("model", "other"):
                for wrong in wrongs.no_models():
                    self.check_given(InvalidModel, wrong, call, **{**right, name: wrong})
                for loose in LOOSE_MODELS:
                    self.check_error(NotSolvable, call, **{**right, name: loose})

    def test_wrong_motions(self):
        for call in ON_MOTIONS:
            for model in (SPRING, TURN, BAR, TWINS, ROD):
                motion = all_motions(model)[0] if all_motions(model) else ((), (), ())
                for wrong in wrongs.no_motions(motion):
                    self.check_given(InvalidMotion, wrong, call, model, wrong, model, ())
            # Motions of another model, and what breaks an equation.
            for model, motion in (
                (TURN, ((ONE, NIL), (ONE, NIL))), (BAR, ((ONE, NIL), (ONE, NIL), (NIL, NIL))), (TWINS, ((NIL,), (ONE,))),
                (LOOSE, all_motions(BAR)[0]), (BAR, FLIGHT), (SPRING, all_motions(TURN)[0]),
            ):
                self.check_given(InvalidMotion, motion, call, model, motion, model, ())

    def test_wrong_lots(self):
        for model in (SPRING, TURN, BAR):
            for wrong, index in wrongs.no_lots(len(model)):
                for call, right in self.calls(model, all_motions(model)[0], model, wrong):
                    self.check_index(InvalidLot, index, call, **right)

    def test_unlike_sizes(self):
        """Lots are checked as those of the first one; what is unlike comes behind."""
        for model, other, lot in (
            (SPRING, TURN, ((0, 0),)), (TURN, SPRING, ((1, 0),)), (BAR, TURN, ((2, 5),)), (TURN, ROD, ()),
        ):
            for call, right in self.calls(model, all_motions(model)[0], other, lot):
                self.check_error(UnlikeSizes, call, **right)
        for call, right in self.calls(SPRING, all_motions(SPRING)[0], TURN, ((0, 0), (1, 0))):
            self.check_index(InvalidLot, 1, call, **right)

    def test_turns(self):
        last = (
            ({"other": SPRING}, UnlikeSizes), ({"other": BAR, "lot": ((1, 40),)}, UnlikeSizes),
            ({"other": SPRING, "lot": ((1, 1),)}, UnlikeSizes),
        )
        for call, right in self.right():
            self.check_turns(call, right, {
                "model": wrongs.MODEL_TURNS,
                "motion": [((), InvalidMotion, ((),)), (FLIGHT, InvalidMotion, (FLIGHT,))],
                "other": wrongs.MODEL_TURNS,
                "lot": wrongs.LOT_TURNS,
            }, last)


if __name__ == "__main__":
    unittest.main()
