"""Point 28, and the interface of hiddenties/telling.py."""

import unittest
from random import Random

from hiddenties import telling as module
from hiddenties.errors import InvalidIndex, InvalidLot, InvalidModel, InvalidNumber, InvalidPlace, NotAState
from hiddenties.errors import NotSolvable
from hiddenties.models import determinant_of
from hiddenties.plains import plain_lot
from hiddenties.states import first_state_lot, is_state_lot
from hiddenties.telling import expressed, growth_table, may_leave
from tests import makers, oracles, wrongs
from tests.helps import Case
from tests.makers import ALIKE, BAR, LESS, LOOP, NIL, NOUGHT, ONE, ROD, S, SPRING, TURN, TWINS, UNIT

MODELS = makers.solvable_models(141, 40)
LOOSE_MODELS = makers.loose_models(142, 8) + [LOOP, ALIKE, NOUGHT, (((),),)]


def state_lots(source, model):
    """Some state lots: the plain one, and ones taken by greed from stirred places."""
    greatest = max(len(item) for row in model for item in row)
    found = [plain_lot(model)]
    for _ in range(2):
        lot = first_state_lot(model, makers.some_places(source, len(model), 99, greatest + 1))
        found.append(lot)
    return found


def no_state_lots(source, model):
    greatest = max(len(item) for row in model for item in row)
    lots = [makers.some_lot(source, len(model), source.randint(0, 4), greatest) for _ in range(4)]
    return [lot for lot in lots if not is_state_lot(model, lot)]


class ExpressedTest(Case):
    def check_place(self, model, lot, place):
        """The place less the weighed places of the lot is v times the model."""
        told = expressed(model, lot, *place)
        self.assertEqual(len(told), 2)
        weights, paper = told
        self.check_equal(told, told)
        self.assertEqual(len(weights), len(lot))
        numbers = {place: oracles.Fraction(1)}
        for own, weight in zip(lot, weights):
            numbers[own] = numbers.get(own, 0) - oracles.Fraction(*weight)
        self.check_equal(oracles.row_product(paper, model), row_of(len(model), numbers), (model, lot, place))
        return weights

    def test_ordinary(self):
        source = Random(143)
        for model in MODELS:
            for lot in state_lots(source, model):
                place = (source.randrange(len(model)), source.choice((0, 1, 2, 5)))
                weights = self.check_place(model, lot, place)
                space = oracles.Space(model, 1 + max([growth for _, growth in lot + (place,)]))
                for motion in space.motions:
                    weighed = [
                        oracles.Fraction(*weight) * motion[at[0]][at[1]] for at, weight in zip(lot, weights)
                    ]
                    self.assertEqual(sum(weighed), motion[place[0]][place[1]])

    def test_places_of_the_lot(self):
        source = Random(144)
        for model in MODELS:
            for lot in state_lots(source, model):
                for k, place in enumerate(lot):
                    weights = tuple(ONE if at == k else NIL for at in range(len(lot)))
                    self.check_equal(expressed(model, lot, *place), (weights, ((),) * len(model)))

    def test_no_starts(self):
        for unknown, paper in enumerate((((), (), UNIT), ((), UNIT, S), (UNIT, (), (NIL, NIL, LESS)))):
            self.check_equal(expressed(ROD, (), unknown, 0), ((), paper))

    def test_far_growths(self):
        for model in (SPRING, TURN, BAR, TWINS):
            for growth in (39, 40):
                self.check_place(model, plain_lot(model), (len(model) - 1, growth))
        self.check_equal(expressed(TURN, ((0, 0), (1, 0)), 0, 40)[0], (ONE, NIL))
        self.check_place(SPRING, ((0, 39), (0, 40)), (0, 0))

    def test_eight_unknowns(self):
        source = Random(145)
        model = makers.wide_model(source, 6)
        self.check_place(model, tuple((unknown, 0) for unknown in range(8)), (7, 3))


def row_of(many, numbers):
    """The row with these numbers at places."""
    rows = []
    for unknown in range(many):
        growths = [growth for own, growth in numbers if own == unknown]
        told = [numbers.get((unknown, growth), oracles.Fraction(0)) for growth in range(max(growths, default=-1) + 1)]
        rows.append(oracles.polynomial_of(told))
    return tuple(rows)


class MayLeaveTest(Case):
    def test_exchanged_places(self):
        """A place may come for those in the place of which it makes a state lot, and for no others."""
        source = Random(146)
        for model in MODELS:
            for lot in state_lots(source, model):
                place = (source.randrange(len(model)), source.choice((0, 1, 2, 4)))
                told = may_leave(model, lot, place)
                if place in lot:
                    self.check_equal(told, (place,))
                    continue
                wanted = tuple(
                    own for own in lot if is_state_lot(model, tuple(sorted(set(lot) - {own} | {place})))
                )
                self.check_equal(told, wanted, (model, lot, place))

    def test_edges(self):
        self.check_equal(may_leave(BAR, ((0, 0), (0, 1)), (2, 0)), ())
        self.check_equal(may_leave(ROD, (), (1, 7)), ())
        self.check_equal(may_leave(TURN, ((0, 0), (1, 0)), (1, 0)), ((1, 0),))
        self.check_equal(may_leave(TURN, ((0, 0), (1, 0)), (1, 40)), ((1, 0),))
        self.check_equal(may_leave(TURN, ((0, 0), (1, 0)), (1, 41)), ((0, 0),))
        falling = (((NIL, ONE, ONE),),)
        self.check_equal(may_leave(falling, ((0, 0), (0, 1)), (0, 2)), ((0, 1),))


class GrowthTableTest(Case):
    def test_motions_grown(self):
        source = Random(147)
        for model in MODELS:
            for lot in state_lots(source, model):
                table = growth_table(model, lot)
                self.check_equal(table, table)
                self.assertEqual([len(row) for row in table], [len(lot)] * len(lot))
                space = oracles.Space(model, 2 + max([growth for _, growth in lot], default=0))
                for motion in space.motions:
                    numbers = [motion[j][k] for j, k in lot]
                    for (j, k), row in zip(lot, table):
                        weighed = [oracles.Fraction(*weight) * number for weight, number in zip(row, numbers)]
                        self.assertEqual(sum(weighed), motion[j][k + 1])

    def test_determinant(self):
        """The determinant of s less the table is that of the model over its last number."""
        source = Random(148)
        for model in MODELS:
            for lot in state_lots(source, model)[1:]:
                table = growth_table(model, lot)
                if not table:
                    continue
                less = tuple(
                    tuple(
                        oracles.polynomial_of([-oracles.Fraction(*number)] + [1] * (i == j))
                        for j, number in enumerate(row)
                    ) for i, row in enumerate(table)
                )
                bottom = oracles.numbers_of(determinant_of(model))
                self.assertEqual(determinant_of(less), oracles.polynomial_of([own / bottom[-1] for own in bottom]))

    def test_by_hand(self):
        self.check_equal(growth_table(ROD, ()), ())
        self.check_equal(growth_table(SPRING, ((0, 0), (0, 1))), ((NIL, ONE), (LESS, NIL)))
        self.check_equal(growth_table(SPRING, ((0, 0), (0, 3))), ((NIL, LESS), (ONE, NIL)))
        self.check_equal(growth_table(TWINS, ((0, 0),)), ((NIL,),))
        self.check_equal(growth_table((((ONE, (2, 1)),),), ((0, 5),)), (((-1, 2),),))
        self.check_equal(growth_table(BAR, ((0, 0), (1, 1))), ((NIL, (-2, 1)), (NIL, NIL)))


class ArgumentsTest(Case):
    def calls(self, model, lot):
        return (
            (expressed, {"model": model, "lot": lot, "unknown": 0, "order": 2}),
            (may_leave, {"model": model, "lot": lot, "place": (0, 2)}),
            (growth_table, {"model": model, "lot": lot}),
        )

    def test_names(self):
        for call, right in self.calls(TURN, ((0, 0), (1, 0))):
            self.check_right(call, right, module)

    def test_no_state_lots(self):
        source = Random(149)
        for model in MODELS:
            for lot in no_state_lots(source, model):
                for call, right in self.calls(model, lot):
                    self.check_error(NotAState, call, **right)
        for model, lot in makers.NO_STATE_LOTS:
            for call, right in self.calls(model, lot):
                self.check_error(NotAState, call, **right)
        # The lot is looked at even where the place is in it.
        self.check_error(NotAState, may_leave, SPRING, ((0, 2),), (0, 2))
        self.check_error(NotAState, expressed, SPRING, ((0, 2),), 0, 2)

    def test_wrong_models(self):
        for call, right in self.calls(TURN, ((0, 0), (1, 0))):
            for wrong in wrongs.no_models():
                self.check_given(InvalidModel, wrong, call, **{**right, "model": wrong})
            for loose in LOOSE_MODELS:
                self.check_error(NotSolvable, call, **{**right, "model": loose})

    def test_wrong_lots(self):
        for model in (SPRING, TURN, BAR):
            for wrong, index in wrongs.no_lots(len(model)):
                for call, right in self.calls(model, wrong):
                    self.check_index(InvalidLot, index, call, **right)

    def test_wrong_indexes_numbers_and_places(self):
        lot = ((0, 0), (1, 0))
        for wrong in wrongs.no_indexes(2):
            self.check_given(InvalidIndex, wrong, expressed, TURN, lot, wrong, 0)
        for wrong in wrongs.no_numbers_to(0, 40):
            self.check_given(InvalidNumber, wrong, expressed, TURN, lot, 0, wrong)
        for wrong in wrongs.no_places(2):
            self.check_given(InvalidPlace, wrong, may_leave, TURN, lot, wrong)

    def test_turns(self):
        for call, right in self.calls(TURN, ((0, 0), (1, 0))):
            self.check_turns(call, right, {
                "model": wrongs.MODEL_TURNS,
                "lot": wrongs.LOT_TURNS,
                "unknown": [(2, InvalidIndex, (2,)), (-1, InvalidIndex, (-1,))],
                "order": [(41, InvalidNumber, (41,)), (True, InvalidNumber, (True,))],
                "place": [((2, 0), InvalidPlace, ((2, 0),)), ([0, 0], InvalidPlace, ([0, 0],))],
            }, (({"lot": ()}, NotAState), ({"lot": ((0, 0), (0, 2))}, NotAState)))


if __name__ == "__main__":
    unittest.main()
