"""Point 2: one model, followed through all parts of the package, from its pieces to its papers."""

import unittest
from random import Random

from hiddenties.alikes import are_alike, change_between, factor_between, is_within, parting_motion
from hiddenties.blocks import blocks, needed_blocks, used_spots
from hiddenties.certificates import certify_alike, certify_change, certify_solvable, certify_sound, certify_states
from hiddenties.certificates import certify_sure, certify_tie, certify_weight
from hiddenties.checker import accepts
from hiddenties.choices import choice_weight, heaviest_choice, heaviest_choices, heaviest_weight, room_at, short_lot
from hiddenties.consoles import Console
from hiddenties.errors import Broken
from hiddenties.mended import is_mending, mended, mending_table
from hiddenties.models import determinant_of, forcings_of, free_starts, is_solvable, is_sound, leading_numbers
from hiddenties.models import pattern_of
from hiddenties.modes import carries_driven, carries_over, goes_on, gone_on, kept_places, lost_tie
from hiddenties.motions import all_motions, free_places, grown, growth_at, is_motion
from hiddenties.offsets import are_best, least_offsets, span_of
from hiddenties.pieces import apart, is_balanced, is_floating, joined
from hiddenties.plains import is_plain, plain_lot, plain_model
from hiddenties.stages import first_stage, lot_of_lefts, may_be_left, solved_unknowns, stage_lot, stage_places
from hiddenties.starts import broken_tie, course_with, motion_with, start_word
from hiddenties.states import is_state_lot, settles, tie_on, ties_on
from hiddenties.sures import is_sure, sound_model, weak_model
from hiddenties.telling import expressed, growth_table, may_leave
from hiddenties.ties import breaking_motion, is_tie, led_growth, tie_paper, ties_up_to
from hiddenties.workshops import Workshop
from tests import asked, judge, makers, oracles
from tests.helps import Case
from tests.makers import LESS, NIL, ONE, SS, TWO, UNIT

# A weight on a bar, pushed at its port by a flow; the second equation hides behind the first one, grown.
WEIGHT = (1, (
    (SS, (LESS,), (), UNIT), ((NIL, NIL, NIL, ONE), (NIL, LESS), SS, ((2, 1), ONE)), (UNIT, (), TWO, ()),
))
MODEL = joined((WEIGHT,), apart((WEIGHT,)))
FREE = makers.with_row(MODEL, 2, ((), (), (), UNIT))
# The bar tells the second unknown by the first one: x + 2 y is forced by f_2 alone.
HIDDEN = (((1, 2),), (), UNIT, ())
WIDE = ((0, 0), (0, 1), (2, 0), (2, 1))


def numbers(source, count):
    return makers.some_fractions(source, count)


class PlacesTest(Case):
    def test_pieces(self):
        self.assertIs(is_balanced(WEIGHT), True)
        self.assertIs(is_floating(WEIGHT), False)
        self.check_equal(MODEL, WEIGHT[1] + (((), UNIT, (), ()),))
        pair = joined((WEIGHT, WEIGHT), (((0, 0), (1, 0)),))
        self.assertIs(is_solvable(pair), True)

    def test_pattern(self):
        """What holds for all models of the pattern holds for this one; it is one for which the rest does not hold."""
        pattern = pattern_of(MODEL)
        weight, choice, offsets = heaviest_weight(pattern), heaviest_choice(pattern), least_offsets(pattern)
        self.assertEqual(choice_weight(pattern, choice), weight)
        self.assertEqual(span_of(pattern, offsets), weight)
        self.assertIs(are_best(pattern, offsets), True)
        self.assertIsNone(short_lot(pattern))
        self.assertEqual(len(determinant_of(MODEL)) - 1, free_starts(MODEL))
        self.assertLess(free_starts(MODEL), weight)
        self.assertEqual(oracles.number_determinant(leading_numbers(MODEL, offsets)), 0)
        self.assertIs(is_sure(pattern), False)
        self.assertGreater(len(heaviest_choices(pattern)), 1)
        self.assertIs(is_sound(MODEL), False)
        self.assertIs(is_sound(weak_model(pattern)), False)
        self.assertEqual(free_starts(sound_model(pattern)), weight)

    def test_blocks(self):
        pattern = pattern_of(MODEL)
        told, spots = blocks(pattern), used_spots(pattern)
        for at, (equations, unknowns) in enumerate(told):
            self.assertEqual(len(equations), len(unknowns))
            self.assertTrue(all(before < at for before in needed_blocks(pattern, at)))
            for equation, unknown in spots:
                self.assertEqual(equation in equations, unknown in unknowns)
        for equation, unknown in spots:
            self.assertEqual(room_at(pattern, equation, unknown), pattern[equation][unknown])

    def test_mending(self):
        table, better = mending_table(MODEL), mended(MODEL)
        self.assertIs(is_mending(MODEL, table), True)
        self.assertIs(is_sound(better), True)
        self.assertIs(are_alike(MODEL, better), True)
        self.assertEqual(free_starts(better), free_starts(MODEL))
        self.assertEqual(heaviest_weight(pattern_of(better)), free_starts(MODEL))
        self.check_equal(oracles.table_product(change_between(MODEL, better), MODEL), better)

    def test_stages(self):
        """What the stages of the mended model leave is a state of the model itself."""
        better = mended(MODEL)
        lot = stage_lot(better)
        self.assertIs(is_state_lot(MODEL, lot), True)
        lefts = []
        for stage in range(first_stage(better), 0, -1):
            told = [unknown for unknown, _ in stage_places(better, stage)]
            solved = solved_unknowns(better, stage)
            lefts.append(tuple(unknown for unknown in told if unknown not in solved))
            self.assertIs(may_be_left(better, stage, lefts[-1]), True)
        self.check_equal(lot_of_lefts(better, tuple(lefts)), lot)


class NumbersTest(Case):
    def test_motions(self):
        motions = all_motions(MODEL)
        self.assertEqual(len(motions), free_starts(MODEL))
        for at, motion in enumerate(motions):
            self.assertIs(is_motion(MODEL, motion), True)
            self.assertIs(is_motion(MODEL, grown(MODEL, motion)), True)
            for k, (unknown, growth) in enumerate(free_places(MODEL)):
                self.assertEqual(growth_at(MODEL, motion, unknown, growth), ONE if k == at else NIL)

    def test_ties(self):
        """Each tie leads all motions to nought, and solutions to what its paper leads the forcings to."""
        self.assertIs(is_tie(MODEL, HIDDEN), True)
        base, source = ties_up_to(MODEL, (1, 1, 1, 1)), Random(381)
        self.assertIn((UNIT, (), TWO, ()), base)
        forcings = tuple(numbers(source, 6) for _ in MODEL)
        courses = course_with(MODEL, plain_lot(MODEL), numbers(source, free_starts(MODEL)), forcings, 12)
        for row in base:
            paper = tie_paper(MODEL, row)
            self.check_equal(oracles.row_product(paper, MODEL), row)
            for motion in all_motions(MODEL):
                self.assertEqual([led_growth(MODEL, row, motion, order) for order in range(4)], [NIL] * 4)
            led = oracles.led_at(row, [oracles.numbers_of(course) for course in courses], 0)
            self.assertEqual(led, oracles.forced_at(paper, forcings, 0))
        broken = makers.with_row(HIDDEN, 0, UNIT)
        motion = breaking_motion(MODEL, broken)
        self.assertNotEqual(led_growth(MODEL, broken, motion, 0), NIL)
        self.assertIsNone(tie_paper(MODEL, broken))

    def test_alike_models(self):
        plain = plain_model(MODEL)
        self.assertIs(is_plain(plain), True)
        self.assertIs(are_alike(plain, MODEL), True)
        self.assertIs(is_within(MODEL, FREE), True)
        self.check_equal(oracles.table_product(factor_between(MODEL, FREE), MODEL), FREE)
        self.assertIs(is_within(FREE, MODEL), False)
        self.assertIsNone(factor_between(FREE, MODEL))
        self.assertIsNone(change_between(MODEL, FREE))
        index, motion = parting_motion(MODEL, FREE)
        self.assertEqual(index, 1)
        self.assertIs(is_motion(FREE, motion), True)
        self.assertIs(settles(FREE, WIDE), True)
        self.assertEqual(goes_on(FREE, motion, MODEL, WIDE), "none")

    def test_states(self):
        lot, free = plain_lot(MODEL), ((0, 0), (2, 0))
        self.assertIs(is_state_lot(MODEL, lot), True)
        self.assertIs(settles(MODEL, free), False)
        self.assertEqual(tie_on(MODEL, free), ties_on(MODEL, free)[0])
        told = determinant_of(MODEL)
        last = oracles.Fraction(*told[-1])
        self.assertEqual(self.spin(growth_table(MODEL, lot)), [number / last for number in oracles.numbers_of(told)])
        for unknown in range(4):
            weights, row = expressed(MODEL, lot, unknown, 3)
            place = (unknown, 3)
            self.assertEqual(may_leave(MODEL, lot, place), tuple(own for own, n in zip(lot, weights) if n != NIL))
            for own in may_leave(MODEL, lot, place):
                other = tuple(sorted([place] + [kept for kept in lot if kept != own]))
                self.assertIs(is_state_lot(MODEL, other), True)
            self.assertTrue(judge.is_row(row, 4))

    def spin(self, table):
        """The numbers of the determinant of s less a table."""
        rows = tuple(
            tuple(oracles.polynomial_of([-oracles.Fraction(*n), int(i == j)]) for j, n in enumerate(row))
            for i, row in enumerate(table)
        )
        return oracles.numbers_of(oracles.determinant(rows))

    def test_starts(self):
        """A solution's numbers are a start that is kept, and what the equations lead it to are the forcings."""
        source, lot = Random(382), plain_lot(MODEL)
        forcings = tuple(numbers(source, 5) + (NIL,) * 15 for _ in MODEL)
        courses = course_with(MODEL, lot, numbers(source, len(lot)), forcings, 20)
        for told, forcing in zip(forcings_of(MODEL, courses), forcings):
            self.assertEqual(told, forcing[:len(told)])
        told = tuple(courses[unknown][growth] for unknown, growth in WIDE)
        self.assertEqual(start_word(MODEL, WIDE, told, forcings), "one")
        self.check_equal(course_with(MODEL, WIDE, told, forcings, 20), courses)
        wrong = told[:2] + (makers.pair(oracles.Fraction(*told[2]) + 1),) + told[3:]
        self.assertEqual(start_word(MODEL, WIDE, wrong, forcings), "none")
        self.check_equal(broken_tie(MODEL, WIDE, wrong, forcings), HIDDEN)
        self.assertEqual(start_word(MODEL, WIDE[::2], told[::2], forcings), "many")
        motion = motion_with(MODEL, lot, numbers(source, len(lot)))
        self.assertIs(is_motion(MODEL, motion), True)

    def test_modes(self):
        """From the model without the bar's tie to the one with it: the tie is lost, and what is kept goes on."""
        self.assertIs(carries_over(FREE, MODEL, WIDE), False)
        self.check_equal(lost_tie(FREE, MODEL, WIDE), HIDDEN)
        kept = kept_places(FREE, MODEL, WIDE)
        self.check_equal(kept, ((0, 0), (0, 1)))
        for motion in all_motions(FREE):
            self.assertEqual(goes_on(FREE, motion, MODEL, kept), "one")
            told = gone_on(FREE, motion, MODEL, kept)
            for unknown, growth in kept:
                self.assertEqual(growth_at(MODEL, told, unknown, growth), growth_at(FREE, motion, unknown, growth))
        self.assertIs(carries_over(MODEL, mended(MODEL), WIDE), True)
        self.assertIs(carries_driven(MODEL, MODEL, WIDE), True)


class KeptTest(Case):
    def test_workshop(self):
        """A model that would break a wish is refused, by the workshop and at its console."""
        shop = Workshop()
        console, lot = Console(shop), plain_lot(MODEL)
        shop.put("bar", MODEL)
        shop.put("better", mended(MODEL))
        for wish in (
            ("solvable", "bar"), ("free", "bar", free_starts(MODEL)), ("sound", "better"), ("states", "bar", lot),
            ("alike", "bar", "better"),
        ):
            shop.wish(wish)
        before = (shop.names, shop.wishes, len(shop))
        text = console.say("model better")
        with self.assertRaises(Broken):
            shop.put("better", FREE)
        with self.assertRaises(Broken):
            with shop.trial():
                for index in (4, 3):
                    shop.lift(index)
                shop.put("bar", mended(MODEL))
                shop.put("bar", FREE)
        self.assertEqual((shop.names, shop.wishes, len(shop)), before)
        self.assertEqual(console.say("starts bar"), str(free_starts(MODEL)))
        self.assertEqual(console.say("weight bar"), str(heaviest_weight(pattern_of(MODEL))))
        console.say("put bar: " + text)
        self.check_equal(shop.named("bar"), mended(MODEL))
        console.say("undo")
        self.check_equal(shop.named("bar"), MODEL)

    def test_papers(self):
        pattern, lot = pattern_of(MODEL), plain_lot(MODEL)
        words = []
        for claim, paper in (
            certify_weight(pattern), certify_sure(pattern), certify_solvable(MODEL), certify_sound(MODEL),
            certify_sound(mended(MODEL)), certify_tie(MODEL, HIDDEN), certify_tie(MODEL, (UNIT, (), (), ())),
            certify_states(MODEL, lot), certify_states(MODEL, lot[1:]), certify_alike(MODEL, mended(MODEL)),
            certify_alike(MODEL, FREE), certify_change(MODEL, FREE, lot), certify_change(FREE, MODEL, lot + ((2, 0),)),
        ):
            words.append(claim[0])
            self.assertIs(accepts(claim, paper), True)
            self.assertIs(judge.accepts(claim, paper), True)
            for other in asked.contraries(claim):
                self.assertIs(accepts(other, paper), False)
        self.assertEqual(words, [
            "weight", "not sure", "solvable", "weak", "sound", "tie", "no tie", "states", "no states", "alike",
            "unlike", "carries", "loses",
        ])


if __name__ == "__main__":
    unittest.main()
