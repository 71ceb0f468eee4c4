"""Point 30, and the interface of hiddenties/starts.py."""

import unittest
from random import Random

from hiddenties import starts as module
from hiddenties.errors import InvalidForcings, InvalidLot, InvalidModel, InvalidNumber, InvalidNumbers, NotAState
from hiddenties.errors import NotSolvable
from hiddenties.plains import plain_lot
from hiddenties.starts import broken_tie, course_with, motion_with, start_word
from hiddenties.states import first_state_lot, is_state_lot, settles, ties_on
from tests import makers, oracles, wrongs
from tests.helps import Case
from tests.makers import ALIKE, BAR, HALF, LOOP, NIL, NOUGHT, ONE, ROD, SPRING, TURN, TWINS, TWO, UNIT

MODELS = makers.solvable_models(161, 40)
LOOSE_MODELS = makers.loose_models(162, 8) + [LOOP, ALIKE, NOUGHT, (((),),)]
LESS = (-1, 1)


def some_forcings(source, many):
    """None, some, or forcings of unlike lengths."""
    if source.randrange(4) == 0:
        return ()
    return tuple(makers.some_fractions(source, source.choice((0, 1, 2, 5))) for _ in range(many))


def with_noughts(forcings, many):
    return forcings if forcings else ((),) * many


def broken_by_words(model, lot, numbers, forcings):
    """The first tie of the base of which point 30 does not hold; None."""
    told = {place: oracles.Fraction(*number) for place, number in zip(lot, numbers)}
    for row in ties_on(model, lot):
        paper = oracles.paper(model, row)
        wanted = oracles.forced_at(paper, with_noughts(forcings, len(model)), 0)
        if oracles.read_off(row, told) != wanted:
            return row
    return None


def state_lot(source, model):
    greatest = max(len(item) for row in model for item in row)
    return first_state_lot(model, makers.some_places(source, len(model), 99, greatest + 1))


class StartTest(Case):
    def check_start(self, model, lot, numbers, forcings):
        broken = broken_by_words(model, lot, numbers, forcings)
        word = "none" if broken is not None else "one" if settles(model, lot) else "many"
        about = (model, lot, numbers, forcings)
        self.assertEqual(start_word(model, lot, numbers, forcings), word, about)
        self.check_equal(broken_tie(model, lot, numbers, forcings), broken, about)
        courses = course_with(model, lot, numbers, forcings, 12)
        if word == "one":
            self.check_courses(model, lot, numbers, forcings, courses)
        else:
            self.assertIsNone(courses)
        return word

    def check_courses(self, model, lot, numbers, forcings, courses):
        """The courses have the numbers at the lot, and give the forcings back as far as they are told."""
        self.check_equal(courses, courses)
        self.assertEqual([len(course) for course in courses], [12] * len(model))
        for (unknown, growth), number in zip(lot, numbers):
            self.check_equal(courses[unknown][growth], number)
        told = [oracles.numbers_of(course) for course in courses]
        for row, forcing in zip(model, with_noughts(forcings, len(model))):
            longest = max(len(item) for item in row)
            for growth in range(12 - longest + 1):
                wanted = oracles.Fraction(*forcing[growth]) if growth < len(forcing) else 0
                self.assertEqual(oracles.led_at(row, told, growth), wanted, (model, lot, numbers, forcings))

    def test_any_numbers(self):
        source, found = Random(163), {}
        for model in MODELS:
            for _ in range(4):
                lot = makers.some_lot(source, len(model), source.randint(0, 4), 3)
                numbers = makers.some_fractions(source, len(lot))
                found[self.check_start(model, lot, numbers, some_forcings(source, len(model)))] = True
        self.assertEqual(sorted(found), ["many", "none", "one"])

    def test_numbers_of_solutions(self):
        """Numbers read off a solution are a start of it, whatever the lot; one number changed they mostly are none."""
        source, found = Random(164), {}
        for model in MODELS:
            forcings, lot = some_forcings(source, len(model)), state_lot(source, model)
            courses = course_with(model, lot, makers.some_fractions(source, len(lot)), forcings, 12)
            for _ in range(2):
                other = makers.some_lot(source, len(model), source.randint(1, 6), 4)
                numbers = tuple(courses[unknown][growth] for unknown, growth in other)
                word = self.check_start(model, other, numbers, forcings)
                self.assertNotEqual(word, "none")
                if word == "one":
                    self.check_equal(course_with(model, other, numbers, forcings, 12), courses)
                at = source.randrange(len(other))
                changed = numbers[:at] + (makers.pair(oracles.Fraction(*numbers[at]) + 1),) + numbers[at + 1:]
                found[word, self.check_start(model, other, changed, forcings)] = True
        self.assertTrue({("one", "none"), ("one", "one"), ("many", "none"), ("many", "many")} <= set(found))

    def test_state_lots_have_one_solution_for_any_numbers(self):
        source = Random(165)
        for model in MODELS:
            lot, forcings = state_lot(source, model), some_forcings(source, len(model))
            self.assertEqual(self.check_start(model, lot, makers.some_fractions(source, len(lot)), forcings), "one")

    def test_empty_lots(self):
        for model in MODELS:
            word = "one" if oracles.free_starts(model) == 0 else "many"
            for forcings in ((), ((),) * len(model), ((ONE, TWO[0]),) * len(model)):
                self.assertEqual(self.check_start(model, (), (), forcings), word)

    def test_no_starts(self):
        self.check_equal(course_with(ROD, (), (), (), 3), ((NIL,) * 3,) * 3)
        self.check_equal(course_with(ROD, (), (), ((), (), (ONE, (2, 1), (3, 1))), 4), (
            (ONE, (2, 1), (3, 1), NIL), ((2, 1), (3, 1), NIL, NIL), ((-3, 1), NIL, NIL, NIL),
        ))
        self.assertEqual(self.check_start(ROD, ((1, 0),), (NIL,), ()), "one")
        self.assertEqual(self.check_start(ROD, ((1, 0),), (ONE,), ()), "none")
        self.assertEqual(self.check_start(ROD, ((1, 0),), (ONE,), ((), (ONE,), ())), "one")

    def test_by_hand(self):
        near = ((0, 0), (1, 0))
        self.check_equal(broken_tie(BAR, near, (ONE, ONE), ()), (HALF, UNIT, ()))
        self.check_equal(broken_tie(BAR, near, ((2, 1), LESS), ()), None)
        self.assertEqual(start_word(BAR, near + ((2, 0),), ((2, 1), LESS, NIL), ()), "many")
        self.assertEqual(start_word(BAR, near + ((2, 0),), ((2, 1), LESS, ONE), ()), "none")
        self.check_equal(broken_tie(BAR, near + ((2, 0),), ((2, 1), LESS, ONE), ()), ((), (), UNIT))
        # Both ties are broken: the first one is told.
        self.check_equal(broken_tie(BAR, near + ((2, 0),), (ONE, ONE, ONE), ()), (HALF, UNIT, ()))
        self.assertEqual(start_word(BAR, ((2, 0),), (ONE,), (((5, 1),),) + ((), ())), "many")
        self.assertEqual(start_word(BAR, ((2, 0),), (ONE,), ((), (), (NIL, NIL, (-5, 1)))), "many")
        self.assertEqual(start_word(BAR, ((2, 0),), (ONE,), ((), (), (NIL, (-5, 1)))), "none")
        self.check_equal(course_with(SPRING, ((0, 0), (0, 1)), (ONE, NIL), (((3, 1),),), 5), (
            (ONE, NIL, (2, 1), NIL, (-2, 1)),
        ))

    def test_unlike_lengths(self):
        forcings = ((), (ONE,) * 7, (TWO[0],))
        for model in (BAR, ROD):
            lot = plain_lot(model)
            self.assertEqual(self.check_start(model, lot, (ONE,) * len(lot), forcings), "one")
        longer = ((NIL, NIL), (ONE,) * 7 + (NIL, NIL), (TWO[0], NIL))
        lot = plain_lot(BAR)
        self.check_equal(course_with(BAR, lot, (ONE, ONE), forcings, 9), course_with(BAR, lot, (ONE, ONE), longer, 9))

    def test_noughts(self):
        for model in MODELS[:20]:
            lot = plain_lot(model)
            numbers = (ONE,) * len(lot)
            told = course_with(model, lot, numbers, (), 6)
            for forcings in (((),) * len(model), ((NIL,),) * len(model), ((NIL, NIL, NIL),) * len(model)):
                self.check_equal(course_with(model, lot, numbers, forcings, 6), told)

    def test_few_and_many_growths(self):
        source = Random(166)
        for model in MODELS[:25] + [SPRING, TURN, BAR]:
            lot, forcings = state_lot(source, model), some_forcings(source, len(model))
            numbers = makers.some_fractions(source, len(lot))
            told = course_with(model, lot, numbers, forcings, 40)
            self.assertEqual([len(course) for course in told], [40] * len(model))
            for many in (1, 2, 7):
                wanted = tuple(course[:many] for course in told)
                self.check_equal(course_with(model, lot, numbers, forcings, many), wanted)

    def test_far_growths(self):
        forcings = ((LESS, TWO[0]), (ONE,) * 60)
        told = course_with(TURN, ((0, 0), (1, 0)), (ONE, ONE), forcings, 40)
        # One of both tells the other one.
        lot = ((0, 38), (1, 39))
        numbers = (told[0][38], told[1][39])
        self.assertEqual(start_word(TURN, lot, numbers, forcings), "many")
        self.assertEqual(start_word(TURN, lot, numbers, ()), "none")
        self.assertIs(is_state_lot(TURN, ((0, 38), (0, 39))), True)
        again = course_with(TURN, ((0, 38), (0, 39)), (told[0][38], told[0][39]), forcings, 40)
        self.check_equal(again, told)

    def test_eight_unknowns(self):
        source = Random(167)
        model = makers.wide_model(source, 5)
        lot = tuple((unknown, 0) for unknown in range(8))
        forcings = tuple(makers.some_fractions(source, k) for k in range(8))
        numbers = makers.some_fractions(source, 8)
        courses = course_with(model, lot, numbers, forcings, 12)
        self.check_courses(model, lot, numbers, forcings, courses)


class MotionWithTest(Case):
    def test_ordinary(self):
        source = Random(168)
        for model in MODELS:
            lot = state_lot(source, model)
            numbers = makers.some_fractions(source, len(lot))
            motion = motion_with(model, lot, numbers)
            self.check_equal(motion, motion)
            self.assertEqual([len(course) for course in motion], [len(lot)] * len(model))
            self.assertTrue(oracles.is_motion(model, motion))
            further = oracles.further(model, motion, 1 + max([growth for _, growth in lot], default=0))
            for (unknown, growth), number in zip(lot, numbers):
                self.assertEqual(makers.pair(further[unknown][growth]), number)

    def test_edges(self):
        self.check_equal(motion_with(ROD, (), ()), ((), (), ()))
        self.check_equal(motion_with(SPRING, ((0, 1), (0, 40)), ((2, 1), (1, 3))), (((1, 3), (2, 1)),))
        self.check_equal(motion_with(TWINS, ((0, 0),), ((-5, 7),)), (((-5, 7),), (NIL,)))
        self.check_equal(motion_with((((ONE, (2, 1)),),), ((0, 3),), (ONE,)), (((-8, 1),),))


class ArgumentsTest(Case):
    def calls(self, model, lot, numbers):
        told = {"model": model, "lot": lot, "numbers": numbers}
        forced = {**told, "forcings": ()}
        return (
            (start_word, forced), (broken_tie, forced), (motion_with, told), (course_with, {**forced, "many": 40}),
        )

    def test_names(self):
        for call, right in self.calls(TURN, ((0, 0), (1, 0)), (ONE, TWO[0])):
            self.check_right(call, right, module)

    def test_no_state_lots(self):
        for model, lot in makers.NO_STATE_LOTS:
            self.check_error(NotAState, motion_with, model, lot, (NIL,) * len(lot))
            self.check_error(NotAState, motion_with, numbers=(NIL,) * len(lot), lot=lot, model=model)

    def test_wrong_models(self):
        for call, right in self.calls(TURN, ((0, 0), (1, 0)), (ONE, ONE)):
            for wrong in wrongs.no_models():
                self.check_given(InvalidModel, wrong, call, **{**right, "model": wrong})
            for loose in LOOSE_MODELS:
                self.check_error(NotSolvable, call, **{**right, "model": loose})

    def test_wrong_lots(self):
        for model in (SPRING, TURN, BAR):
            for wrong, index in wrongs.no_lots(len(model)):
                for call, right in self.calls(model, wrong, ()):
                    self.check_index(InvalidLot, index, call, **right)

    def test_wrong_numbers(self):
        for model, lot in ((SPRING, ((0, 0), (0, 1))), (ROD, ()), (BAR, ((0, 0), (0, 1))), (TWINS, ((0, 0),))):
            for wrong, index in wrongs.no_number_tuples(len(lot)):
                for call, right in self.calls(model, lot, wrong):
                    self.check_index(InvalidNumbers, index, call, **right)

    def test_wrong_forcings(self):
        for model in (SPRING, TURN, BAR):
            lot = plain_lot(model)
            for wrong, index in wrongs.no_forcings(len(model)):
                for call, right in self.calls(model, lot, (ONE, ONE)):
                    if "forcings" in right:
                        self.check_index(InvalidForcings, index, call, **{**right, "forcings": wrong})

    def test_wrong_growths(self):
        for lot, numbers in ((((0, 0), (1, 0)), (ONE, ONE)), ((), ())):
            for wrong in wrongs.no_numbers_to(1, 40) + [0]:
                self.check_given(InvalidNumber, wrong, course_with, TURN, lot, numbers, (), wrong)

    def test_turns(self):
        for call, right in self.calls(TURN, ((0, 0), (1, 0)), (ONE, ONE)):
            last = ({"lot": ((0, 0), (0, 2))}, NotAState), ({"lot": ((1, 3), (1, 5))}, NotAState)
            self.check_turns(call, right, {
                "model": wrongs.MODEL_TURNS,
                "lot": wrongs.LOT_TURNS,
                "numbers": [((), InvalidNumbers, (None,)), ((ONE, (2, 2)), InvalidNumbers, (1,))],
                "forcings": [([], InvalidForcings, (None,)), (((), ONE), InvalidForcings, (1,))],
                "many": [(0, InvalidNumber, (0,)), (41, InvalidNumber, (41,)), (True, InvalidNumber, (True,))],
            }, last if call is motion_with else ())


if __name__ == "__main__":
    unittest.main()
