"""Points 31 and 32, and the interface of hiddenties/stages.py."""

import unittest
from itertools import chain, combinations
from random import Random

from hiddenties import stages as module
from hiddenties.errors import InvalidLefts, InvalidModel, InvalidNumber, InvalidUnknowns, NotSolvable, NotSound
from hiddenties.mended import mended
from hiddenties.stages import first_stage, lot_of_lefts, may_be_left, solved_unknowns, stage_equations, stage_lot
from hiddenties.stages import stage_places, stage_table
from hiddenties.states import is_state_lot
from hiddenties.sures import sound_model
from tests import makers, oracles, wrongs
from tests.helps import Case
from tests.makers import ALIKE, BAR, LOOP, LOOSE, NIL, NOUGHT, ONE, ROD, S, SLACK, SPRING, SS, TURN, TWINS, TWO, UNIT
from tests.makers import WEAK

LOOSE_MODELS = makers.loose_models(202, 8) + [LOOP, ALIKE, NOUGHT, (((),),)]
WEAK_MODELS = makers.weak_models(203, 12) + list(WEAK)
AT_STAGES = (stage_equations, stage_places, stage_table, solved_unknowns)
# Its equations are grown 1, 0 and 4 times, and nothing is left.
LADDER = (((NIL, NIL, NIL, ONE), UNIT, ()), (S, S, UNIT), (UNIT, (), ()))


def mended_models():
    return [mended(model) for model in WEAK_MODELS]


def of_patterns():
    """Sound models of patterns whose equations are to be grown several times."""
    source, found = Random(204), []
    while len(found) < 25:
        pattern = makers.some_pattern(source, source.choice((2, 3)), 3, 5)
        if oracles.all_choices(pattern) and max(oracles.least_offsets(pattern)[0]) > 0:
            found.append(sound_model(pattern))
    return found


MODELS = makers.sound_models(201, 40) + mended_models() + of_patterns() + [LADDER]


def parts(items):
    """All tuples of some of the items, in their order."""
    return chain.from_iterable(combinations(items, size) for size in range(len(items) + 1))


class Told:
    """The stages of a sound model by the words of point 31."""

    def __init__(self, model):
        self.many = range(len(model))
        self.grown, self.settled = oracles.least_offsets(oracles.orders(model))
        self.greatest = max(self.settled)
        self.numbers = {
            (i, j): model[i][j][self.settled[j] - self.grown[i]]
            if 0 <= self.settled[j] - self.grown[i] < len(model[i][j]) else NIL
            for i in self.many for j in self.many
        }

    def equations(self, stage):
        return [i for i in self.many if self.grown[i] >= stage]

    def unknowns(self, stage):
        return [j for j in self.many if self.settled[j] >= stage]

    def table(self, stage, unknowns):
        return tuple(tuple(self.numbers[i, j] for j in unknowns) for i in self.equations(stage))

    def column_rank(self, stage, unknowns):
        return oracles.rank([
            [oracles.Fraction(*self.numbers[i, j]) for i in self.equations(stage)] for j in unknowns
        ])

    def may_be_left(self, stage, unknowns):
        told = self.unknowns(stage)
        if not 1 <= stage <= self.greatest or not set(unknowns) <= set(told):
            return False
        others = [j for j in told if j not in unknowns]
        square = len(others) == len(self.equations(stage))
        return square and self.column_rank(stage, others) == len(others)

    def solved(self, stage):
        if stage == 0:
            return list(self.many)
        found = []
        for j in self.solved(stage - 1):
            if self.settled[j] >= stage and self.column_rank(stage, found + [j]) > len(found):
                found.append(j)
        return found


class StagesTest(Case):
    def test_tables(self):
        for model in MODELS:
            told = Told(model)
            self.check_equal(first_stage(model), told.greatest)
            for stage in range(told.greatest + 3):
                equations, unknowns = told.equations(stage), told.unknowns(stage)
                about = (model, stage)
                self.check_equal(stage_equations(model, stage), tuple((i, told.grown[i] - stage) for i in equations), about)
                self.check_equal(stage_places(model, stage), tuple((j, told.settled[j] - stage) for j in unknowns), about)
                self.check_equal(stage_table(model, stage), told.table(stage, unknowns), about)

    def test_rows_are_independent(self):
        for model in MODELS:
            for stage in range(first_stage(model) + 1):
                rows = [oracles.numbers_of(row) for row in stage_table(model, stage)]
                self.assertEqual(oracles.rank(rows), len(rows))

    def test_places_more_than_equations(self):
        """As many at stage 0, W more from stage 1 on."""
        deep = 0
        for model in MODELS:
            more = [
                len(stage_places(model, stage)) - len(stage_equations(model, stage))
                for stage in range(first_stage(model) + 1)
            ]
            self.assertEqual(more[0], 0)
            self.assertTrue(min(more) >= 0)
            self.assertEqual(sum(more[1:]), oracles.heaviest(oracles.orders(model))[0])
            deep += len(more) > 2
        self.assertGreater(deep, 20)

    def test_what_grown_equations_mention(self):
        """Growth d_j - t with the number of the table, lower growths of these unknowns, and no other ones."""
        for model in MODELS:
            for stage in range(first_stage(model) + 1):
                places = dict(stage_places(model, stage))
                for row, (equation, times) in zip(stage_table(model, stage), stage_equations(model, stage)):
                    grown = [(NIL,) * times + item if item else () for item in model[equation]]
                    numbers = dict(zip(places, row))
                    for unknown, item in enumerate(grown):
                        if unknown not in places:
                            self.assertEqual(item, ())
                            continue
                        self.assertLessEqual(len(item) - 1, places[unknown])
                        top = item[places[unknown]] if places[unknown] < len(item) else NIL
                        self.assertEqual(top, numbers[unknown])

    def test_beyond_the_greatest_stage(self):
        for model in MODELS[:15] + [ROD, BAR, makers.unit_table(3)]:
            for stage in (first_stage(model) + 1, first_stage(model) + 2, 40):
                for call in AT_STAGES:
                    self.check_equal(call(model, stage), ())

    def test_stages_without_equations(self):
        """At stages above all c_i nothing is solved, so all is left."""
        self.check_equal(stage_equations(SPRING, 1), ())
        self.check_equal(stage_places(SPRING, 1), ((0, 1),))
        self.check_equal(stage_table(SPRING, 1), ())
        self.check_equal(solved_unknowns(SPRING, 1), ())
        self.check_equal(solved_unknowns(SPRING, 0), (0,))
        self.check_equal(stage_places(SPRING, 2), ((0, 0),))
        self.check_equal(stage_table(SPRING, 0), ((ONE,),))

    def test_by_hand(self):
        self.check_equal(stage_equations(BAR, 0), ((0, 0), (1, 0), (2, 2)))
        self.check_equal(stage_places(BAR, 0), ((0, 2), (1, 2), (2, 0)))
        self.check_equal(stage_places(BAR, 2), ((0, 0), (1, 0)))
        self.check_equal(stage_equations(BAR, 2), ((2, 0),))
        self.check_equal(stage_table(BAR, 2), ((ONE, TWO[0]),))
        self.check_equal(solved_unknowns(BAR, 0), (0, 1, 2))
        self.check_equal(solved_unknowns(BAR, 2), (0,))
        self.check_equal(first_stage(ROD), 2)
        self.check_equal(stage_equations(ROD, 0), ((0, 0), (1, 0), (2, 2)))
        self.check_equal(stage_equations(ROD, 1), ((2, 1),))
        self.check_equal(stage_places(ROD, 1), ((0, 1),))
        self.check_equal(stage_table(ROD, 0), ((ONE, NIL, ONE), (NIL, ONE, NIL), (ONE, NIL, NIL)))
        self.check_equal(solved_unknowns(ROD, 2), (0,))


class LeftsTest(Case):
    def test_may_be_left(self):
        found = {}
        for model in MODELS:
            told = Told(model)
            for stage in range(told.greatest + 2):
                for unknowns in parts(told.many):
                    wanted = told.may_be_left(stage, unknowns)
                    self.assertIs(may_be_left(model, stage, unknowns), wanted, (model, stage, unknowns))
                    found[wanted, len(told.equations(stage)) > 0] = True
        self.assertEqual(len(found), 4)

    def test_never_at_stage_0_nor_beyond(self):
        for model in MODELS:
            for stage in (0, first_stage(model) + 1, 40):
                for unknowns in parts(range(len(model))):
                    self.assertIs(may_be_left(model, stage, unknowns), False)

    def test_unknowns_that_are_not_of_the_stage(self):
        self.assertIs(may_be_left(BAR, 1, (0,)), True)
        self.assertIs(may_be_left(BAR, 1, (1,)), True)
        for unknowns in ((2,), (0, 2), (1, 2), (0, 1), ()):
            self.assertIs(may_be_left(BAR, 1, unknowns), False)
        self.assertIs(may_be_left(LOOSE, 2, (0, 1)), True)
        self.assertIs(may_be_left(LOOSE, 2, (0, 1, 2)), False)

    def test_first_choice(self):
        """The solved columns make a regular table; the lot has, with a place, all lower growths."""
        for model in MODELS:
            told, left = Told(model), []
            for stage in range(told.greatest + 1):
                solved = solved_unknowns(model, stage)
                self.check_equal(solved, tuple(told.solved(stage)), (model, stage))
                self.assertEqual(len(solved), len(told.equations(stage)))
                if solved:
                    self.assertNotEqual(oracles.number_determinant(told.table(stage, solved)), 0)
                rest = tuple(j for j in told.unknowns(stage) if j not in solved)
                self.assertTrue(stage == 0 or may_be_left(model, stage, rest))
                left.append(rest)
            lot = tuple(sorted(
                (j, told.settled[j] - stage) for stage in range(1, told.greatest + 1) for j in left[stage]
            ))
            self.check_equal(stage_lot(model), lot, model)
            self.check_equal(lot_of_lefts(model, tuple(left[:0:-1])), lot, model)
            self.check_state(model, lot)
            for unknown, growth in lot:
                self.assertTrue(all((unknown, lower) in lot for lower in range(growth)), (model, lot))

    def check_state(self, model, lot):
        space = oracles.Space(model, 1 + max([growth for _, growth in lot], default=0))
        self.assertEqual(len(lot), space.starts, (model, lot))
        self.assertEqual(space.rank(lot), space.starts, (model, lot))
        self.assertIs(is_state_lot(model, lot), True)

    def test_whatever_is_left(self):
        """All that may be left in whatever way makes a state lot."""
        source, ways = Random(205), 0
        for model in MODELS:
            told = Told(model)
            allowed = [
                [unknowns for unknowns in parts(told.many) if told.may_be_left(stage, unknowns)]
                for stage in range(told.greatest, 0, -1)
            ]
            for _ in range(4):
                lefts = tuple(source.choice(some) for some in allowed)
                lot = tuple(sorted(
                    (j, told.settled[j] - told.greatest + k) for k, unknowns in enumerate(lefts) for j in unknowns
                ))
                self.check_equal(lot_of_lefts(model, lefts), lot, (model, lefts))
                self.check_state(model, lot)
                ways += lot != stage_lot(model)
        self.assertGreater(ways, 20)

    def test_nothing_left(self):
        self.check_equal(first_stage(makers.unit_table(2)), 0)
        self.check_equal(stage_lot(makers.unit_table(2)), ())
        self.check_equal(lot_of_lefts(makers.unit_table(2), ()), ())
        self.check_equal(stage_lot(ROD), ())
        self.check_equal(lot_of_lefts(ROD, ((), ())), ())
        self.check_equal(first_stage(LADDER), 4)
        self.check_equal(stage_equations(LADDER, 1), ((0, 0), (2, 3)))
        self.check_equal(lot_of_lefts(LADDER, ((),) * 4), ())
        self.assertIs(may_be_left(ROD, 1, ()), True)
        self.assertIs(may_be_left(ROD, 1, (0,)), False)
        self.assertIs(may_be_left(ROD, 2, ()), True)

    def test_all_left(self):
        self.check_equal(lot_of_lefts(SPRING, ((0,), (0,))), ((0, 0), (0, 1)))
        self.check_equal(lot_of_lefts(LOOSE, ((0, 1), (0, 1))), ((0, 0), (0, 1), (1, 0), (1, 1)))
        self.check_equal(lot_of_lefts(BAR, ((1,), (0,))), ((0, 1), (1, 0)))
        self.check_equal(stage_lot(SLACK), ((0, 0), (1, 0)))
        self.check_equal(stage_lot(TURN), ((0, 0), (1, 0)))

    def test_eight_unknowns(self):
        source = Random(206)
        model = makers.wide_model(source, 0, 3)
        lot = stage_lot(model)
        self.assertEqual(len(lot), 24)
        self.assertIs(is_state_lot(model, lot), True)
        self.assertEqual(sum(len(stage_places(model, stage)) for stage in range(1, 1 + first_stage(model))) - sum(
            len(stage_equations(model, stage)) for stage in range(1, 1 + first_stage(model))
        ), 24)


class ArgumentsTest(Case):
    def calls(self, model):
        told = {"model": model, "stage": 1}
        return [(first_stage, {"model": model}), (stage_lot, {"model": model})] + [
            (call, told) for call in AT_STAGES
        ] + [(may_be_left, {**told, "unknowns": (0,)}), (lot_of_lefts, {"model": model, "lefts": ((0,), (1,))})]

    def test_names(self):
        for call, right in self.calls(BAR):
            self.check_right(call, right, module)

    def test_wrong_models(self):
        for call, right in self.calls(BAR):
            for wrong in wrongs.no_models():
                self.check_given(InvalidModel, wrong, call, **{**right, "model": wrong})
            for loose in LOOSE_MODELS:
                self.check_error(NotSolvable, call, **{**right, "model": loose})
            for weak in WEAK_MODELS:
                self.check_error(NotSound, call, **{**right, "model": weak})

    def test_wrong_stages(self):
        for model in (SPRING, BAR):
            for wrong in wrongs.no_numbers_to(0, 40):
                for call in AT_STAGES:
                    self.check_given(InvalidNumber, wrong, call, model, wrong)
                self.check_given(InvalidNumber, wrong, may_be_left, model, wrong, (0,))

    def test_wrong_unknowns(self):
        for model in (SPRING, TURN, BAR):
            for wrong, index in wrongs.no_unknown_tuples(len(model)):
                for stage in (0, 1, 2, 3, 40):
                    self.check_index(InvalidUnknowns, index, may_be_left, model, stage, wrong)

    def test_wrong_lefts(self):
        for value in wrongs.no_tuples() + [[(0,), (1,)], (), ((0,),), ((0,), (1,), ()), (None,) * 3]:
            self.check_index(InvalidLefts, None, lot_of_lefts, BAR, value)
        self.check_index(InvalidLefts, None, lot_of_lefts, makers.unit_table(2), ((),))
        self.check_index(InvalidLefts, None, lot_of_lefts, makers.unit_table(2), [])
        wrong_lots = [wrong for wrong, _ in wrongs.no_unknown_tuples(3)] + [(), (2,), (0, 1), (0, 1, 2), (1, 2)]
        for wrong in wrong_lots:
            self.check_index(InvalidLefts, 0, lot_of_lefts, BAR, (wrong, (0,)))
            self.check_index(InvalidLefts, 0, lot_of_lefts, BAR, (wrong, wrong))
            self.check_index(InvalidLefts, 1, lot_of_lefts, BAR, ((1,), wrong))
            self.check_index(InvalidLefts, 1, lot_of_lefts, lefts=((0,), wrong), model=BAR)

    def test_lefts_are_told_from_the_greatest_stage_on(self):
        """With two unknowns left at stage 1 alone the order of both elements is told apart."""
        model = ((SS, ()), ((), S))
        self.check_equal(first_stage(model), 2)
        self.check_equal(stage_places(model, 2), ((0, 0),))
        self.check_equal(lot_of_lefts(model, ((0,), (0, 1))), ((0, 0), (0, 1), (1, 0)))
        self.check_index(InvalidLefts, 0, lot_of_lefts, model, ((0, 1), (0,)))
        self.check_index(InvalidLefts, 1, lot_of_lefts, model, ((0,), (0,)))

    def test_turns(self):
        models = wrongs.MODEL_TURNS + [(TWINS, NotSound, ())]
        for call, right in self.calls(BAR):
            self.check_turns(call, right, {
                "model": models,
                "stage": [(41, InvalidNumber, (41,)), (True, InvalidNumber, (True,)), (None, InvalidNumber, (None,))],
                "unknowns": [([], InvalidUnknowns, (None,)), ((1, 0), InvalidUnknowns, (1,))],
                "lefts": [((), InvalidLefts, (None,)), (((0,), 1), InvalidLefts, (1,))],
            })


if __name__ == "__main__":
    unittest.main()
