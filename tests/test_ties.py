"""Points 22 and 23, and the interface of hiddenties/ties.py."""

import unittest
from random import Random

from hiddenties import ties as module
from hiddenties.errors import InvalidModel, InvalidMotion, InvalidNumber, InvalidOrders, InvalidRow, NotSolvable
from hiddenties.models import is_model
from hiddenties.motions import all_motions, is_motion
from hiddenties.ties import breaking_motion, is_tie, led_growth, tie_paper, ties_up_to
from tests import makers, oracles, wrongs
from tests.helps import Case
from tests.makers import ALIKE, BAR, HALF, LESS, LOOP, NIL, NOUGHT, ONE, ROD, S, SPRING, SS, TURN, TWINS, TWO, UNIT

MODELS = makers.solvable_models(111, 45)
LOOSE_MODELS = makers.loose_models(112, 10) + [LOOP, ALIKE, NOUGHT, (((),),)]


def nought(many):
    return ((),) * many


class TieTest(Case):
    def check_paper(self, model, row):
        """What is told of a row agrees with the adjoint table, and makes what it is to make."""
        wanted = oracles.paper(model, row)
        self.assertIs(is_tie(model, row), wanted is not None, (model, row))
        self.check_equal(tie_paper(model, row), wanted, (model, row))
        motion = breaking_motion(model, row)
        if wanted is None:
            self.assertTrue(oracles.is_motion(model, motion), (model, row))
            self.assertIs(is_motion(model, motion), True)
            longest = max(len(item) for item in row)
            self.assertNotEqual(oracles.led_at(row, oracles.further(model, motion, longest), 0), 0)
            self.assertNotEqual(led_growth(model, row, motion, 0), NIL)
        else:
            self.assertEqual(oracles.row_product(wanted, model), row)
            self.assertIsNone(motion)
        return wanted is not None

    def test_multiples_of_equations(self):
        source = Random(113)
        for model in MODELS:
            for greatest in (0, 1, 3):
                row, paper = makers.some_tie(source, model, greatest)
                self.assertTrue(self.check_paper(model, row))
                self.check_equal(tie_paper(model, row), paper)

    def test_one_number_changed(self):
        source, found = Random(114), {}
        for model in MODELS:
            row = makers.with_one_changed(source, makers.some_tie(source, model)[0])
            found[self.check_paper(model, row), oracles.free_starts(model) == 0] = True
        # Where no motion is but nought, each row is a tie.
        self.assertEqual(sorted(found), [(False, False), (True, False), (True, True)])

    def test_any_rows(self):
        source, found = Random(115), {}
        for model in MODELS:
            for _ in range(3):
                found[self.check_paper(model, makers.some_row(source, len(model), 3))] = True
        self.assertEqual(sorted(found), [False, True])

    def test_single_places(self):
        for model in MODELS[:30] + [BAR, TWINS, ROD]:
            for unknown in range(len(model)):
                for growth in (0, 1, 4):
                    row = tuple((NIL,) * growth + (ONE,) if k == unknown else () for k in range(len(model)))
                    self.check_paper(model, row)

    def test_nought(self):
        for model in MODELS:
            self.check_equal(tie_paper(model, nought(len(model))), nought(len(model)))
            self.assertIs(is_tie(model, nought(len(model))), True)
            self.assertIsNone(breaking_motion(model, nought(len(model))))

    def test_equations(self):
        for model in MODELS:
            for k, row in enumerate(model):
                unit = tuple(UNIT if at == k else () for at in range(len(model)))
                self.check_equal(tie_paper(model, row), unit)

    def test_hidden(self):
        """Ties with orders far below those of the equations."""
        self.check_equal(tie_paper(BAR, ((), (), UNIT)), (((1, 5),), ((2, 5),), (NIL, NIL, (-1, 5))))
        self.check_equal(tie_paper(ROD, ((), (), UNIT)), (UNIT, (), (NIL, NIL, LESS)))
        self.assertIs(is_tie(BAR, (HALF, UNIT, ())), True)
        self.assertIs(is_tie(BAR, (UNIT, UNIT, ())), False)

    def test_great_orders(self):
        source = Random(116)
        for model in (SPRING, TURN, BAR):
            row, paper = makers.some_tie(source, model, 0)
            far = tuple((NIL,) * 38 + item if item else () for item in row)
            self.check_equal(tie_paper(model, far), tuple((NIL,) * 38 + item if item else () for item in paper))
            self.check_paper(model, makers.with_one_changed(source, far))

    def test_eight_unknowns(self):
        source = Random(117)
        model = makers.wide_model(source, 6)
        row, paper = makers.some_tie(source, model)
        self.check_equal(tie_paper(model, row), paper)
        self.assertIsNone(breaking_motion(model, row))
        changed = makers.with_row(row, 3, (ONE, (2, 1), (5, 7)))
        motion = breaking_motion(model, changed)
        self.assertIsNone(tie_paper(model, changed))
        self.assertIs(is_motion(model, motion), True)
        self.assertNotEqual(led_growth(model, changed, motion, 0), NIL)


class LedGrowthTest(Case):
    def test_ordinary(self):
        source = Random(118)
        for model in MODELS:
            motion = makers.mixed_motion(source, all_motions(model), len(model))[0]
            row = makers.some_row(source, len(model), 3)
            further = oracles.further(model, motion, 45)
            for order in (0, 1, 5, 40):
                wanted = makers.pair(oracles.led_at(row, further, order))
                self.check_equal(led_growth(model, row, motion, order), wanted)

    def test_edges(self):
        self.check_equal(led_growth(ROD, (SS, UNIT, TWO), ((), (), ()), 40), NIL)
        self.check_equal(led_growth(SPRING, ((),), ((ONE, ONE),), 3), NIL)
        self.check_equal(led_growth(SPRING, ((),), ((ONE, ONE),), 0), NIL)
        self.check_equal(led_growth(SPRING, (UNIT,), (((2, 3), ONE),), 0), (2, 3))
        self.check_equal(led_growth(SPRING, ((NIL,) * 12 + ((3, 1),),), (((2, 3), ONE),), 1), (3, 1))
        for order in range(4):
            self.check_equal(led_growth(TWINS, (S, S), ((ONE,), (NIL,)), order), NIL)


class TiesUpToTest(Case):
    def places(self, orders):
        return [(unknown, k) for unknown, order in enumerate(orders) if order is not None for k in range(order + 1)]

    def check_base(self, model, orders):
        base, many = ties_up_to(model, orders), len(model)
        about, places = (model, orders), self.places(orders)
        self.assertIs(type(base), tuple)
        lines = []
        for row in base:
            self.assertTrue(row_is_up_to(row, orders), about)
            self.assertIsNotNone(oracles.paper(model, row), about)
            lines.append([oracles.Fraction(*(row[j][k] if k < len(row[j]) else NIL)) for j, k in places])
        heads = [next(k for k, number in enumerate(line) if number != 0) for line in lines]
        self.assertEqual(heads, sorted(set(heads)), about)
        for line, head in zip(lines, heads):
            self.assertEqual([line[at] for at in heads], [int(at == head) for at in heads], about)
        space = oracles.Space(model, 1 + max([k for _, k in places], default=0))
        self.assertEqual(len(base), len(places) - space.rank(places), about)
        self.assertTrue(all(len(row) == many for row in base))
        self.check_equal(base, base)
        return base

    def test_ordinary(self):
        source = Random(119)
        for model in MODELS:
            for _ in range(3):
                orders = tuple(source.choice((None, 0, 1, 2, 3, 5)) for _ in model)
                self.check_base(model, orders)

    def test_orders_of_the_model_above_and_below(self):
        for model in MODELS[:25] + [BAR, TWINS, ROD]:
            greatest = max(len(item) - 1 for row in model for item in row)
            for order in (max(0, greatest - 1), greatest, greatest + 1):
                self.check_base(model, (order,) * len(model))

    def test_lesser_ones_are_among_greater_ones(self):
        for model in MODELS[:25]:
            many, last = len(model), None
            for order in (0, 1, 3):
                base = ties_up_to(model, (order,) * many)
                lines = [line_of(row, many, 4) for row in base]
                if last is not None:
                    self.assertEqual(oracles.rank(lines + last), len(base))
                last = lines

    def test_all_none(self):
        for model in MODELS[:20]:
            self.check_equal(ties_up_to(model, (None,) * len(model)), ())

    def test_by_hand(self):
        self.check_equal(ties_up_to(TWINS, (0, None)), ())
        self.check_equal(ties_up_to(TWINS, (None, 1)), (((), UNIT), ((), S)))
        self.check_equal(ties_up_to(TWINS, (1, 0)), ((S, ()), ((), UNIT)))
        self.check_equal(ties_up_to(SPRING, (1,)), ())
        self.check_equal(ties_up_to(SPRING, (3,)), (((ONE, NIL, ONE),), ((NIL, ONE, NIL, ONE),)))
        self.check_equal(ties_up_to(BAR, (0, 0, None)), ((UNIT, TWO, ()),))
        self.check_equal(ties_up_to(BAR, (0, 1, 0)), ((UNIT, TWO, ()), ((), (), UNIT)))
        self.check_equal(ties_up_to(TURN, (1, 1)), ((UNIT, S), (S, (LESS,))))
        self.check_equal(ties_up_to(ROD, (0, None, 1)), ((UNIT, (), ()), ((), (), UNIT), ((), (), S)))

    def test_growths_up_to_forty(self):
        for model, orders in ((SPRING, (40,)), (TURN, (40, None)), (BAR, (0, 40, 1)), (TWINS, (40, 40))):
            self.check_base(model, orders)


def row_is_up_to(row, orders):
    return is_model((row,) + (nought(len(row)),) * (len(row) - 1)) and all(
        len(item) <= (0 if order is None else order + 1) for item, order in zip(row, orders)
    )


def line_of(row, many, growths):
    return [oracles.Fraction(*(row[j][k] if k < len(row[j]) else NIL)) for j in range(many) for k in range(growths)]


class ArgumentsTest(Case):
    def calls(self, model, row, motion):
        return (
            (is_tie, {"model": model, "row": row}), (tie_paper, {"model": model, "row": row}),
            (breaking_motion, {"model": model, "row": row}),
            (led_growth, {"model": model, "row": row, "motion": motion, "order": 3}),
            (ties_up_to, {"model": model, "orders": (1,) * len(model)}),
        )

    def test_names(self):
        for call, right in self.calls(TWINS, (UNIT, S), ((ONE,), (NIL,))):
            self.check_right(call, right, module)

    def test_wrong_models(self):
        for call, right in self.calls(SPRING, (UNIT,), ((ONE, NIL),)):
            for wrong in wrongs.no_models():
                self.check_given(InvalidModel, wrong, call, **{**right, "model": wrong})
            for loose in LOOSE_MODELS:
                self.check_error(NotSolvable, call, **{**right, "model": loose})

    def test_wrong_rows(self):
        for model in (SPRING, TURN, BAR, ROD):
            motion = (all_motions(model) + (((),) * len(model),))[0]
            for call, right in self.calls(model, (), motion)[:4]:
                for wrong in wrongs.no_rows(len(model)) + wrongs.anything():
                    if repr(wrong) != repr(nought(len(model))):
                        self.check_given(InvalidRow, wrong, call, **{**right, "row": wrong})

    def test_wrong_motions_and_numbers(self):
        for model in (SPRING, TURN, TWINS):
            motion = all_motions(model)[0]
            for wrong in wrongs.no_motions(motion):
                self.check_given(InvalidMotion, wrong, led_growth, model, nought(len(model)), wrong, 0)
            for wrong in wrongs.no_numbers_to(0, 40):
                self.check_given(InvalidNumber, wrong, led_growth, model, nought(len(model)), motion, wrong)

    def test_wrong_orders(self):
        for model in (SPRING, TURN, BAR):
            for wrong, index in wrongs.no_orders(len(model)):
                self.check_index(InvalidOrders, index, ties_up_to, model, wrong)
                self.check_index(InvalidOrders, index, ties_up_to, orders=wrong, model=model)

    def test_turns(self):
        motion, wrong = all_motions(TURN)[0], ((ONE, NIL), (ONE, NIL))
        for call, right in self.calls(TURN, (UNIT, S), motion):
            self.check_turns(call, right, {
                "model": wrongs.MODEL_TURNS,
                "row": [(None, InvalidRow, (None,)), ((UNIT,), InvalidRow, ((UNIT,),)),
                        (((NIL,), UNIT), InvalidRow, (((NIL,), UNIT),))],
                "motion": [(None, InvalidMotion, (None,)), (wrong, InvalidMotion, (wrong,))],
                "order": [(41, InvalidNumber, (41,)), (-1, InvalidNumber, (-1,)), (True, InvalidNumber, (True,))],
                "orders": [(None, InvalidOrders, (None,)), ((1, 41), InvalidOrders, (1,))],
            })


if __name__ == "__main__":
    unittest.main()
