"""Points 25 to 27, and the interface of hiddenties/states.py."""

import unittest
from itertools import combinations
from random import Random

from hiddenties import states as module
from hiddenties.errors import InvalidLot, InvalidModel, InvalidPlaces, NotSolvable
from hiddenties.states import first_state_lot, is_free, is_lot, is_state_lot, lot_rank, settles, tie_on, ties_on
from tests import makers, oracles, wrongs
from tests.helps import Case
from tests.makers import ALIKE, BAR, HALF, LOOP, LOOSE, NIL, NOUGHT, ONE, ROD, S, SPRING, SS, TURN, TWINS, UNIT

MODELS = makers.solvable_models(131, 40)
LOOSE_MODELS = makers.loose_models(132, 10) + [LOOP, ALIKE, NOUGHT, (((),),)]
ON_LOTS = (is_free, settles, is_state_lot, lot_rank, ties_on, tie_on)


def some_lots(source, model):
    """Lots of many sizes, with growths within and beyond the orders of the model."""
    many = len(model)
    return [()] + [
        makers.some_lot(source, many, source.randint(1, 6), source.choice((1, 2, 3, 5))) for _ in range(4)
    ]


class LotTest(Case):
    def check_lot(self, model, lot):
        """All that is told of a lot agrees with what the spanning motions let read off."""
        space = oracles.Space(model, 1 + max([growth for _, growth in lot], default=0))
        rank, about = space.rank(lot), (model, lot)
        free, settled = rank == len(lot), rank == space.starts
        self.assertIs(is_lot(model, lot), True)
        self.assertIs(is_free(model, lot), free, about)
        self.assertIs(settles(model, lot), settled, about)
        self.assertIs(is_state_lot(model, lot), free and settled, about)
        self.check_equal(lot_rank(model, lot), rank, about)
        self.check_base(model, lot, space.taken(lot))
        return free, settled

    def check_base(self, model, lot, taken):
        base, about = ties_on(model, lot), (model, lot)
        left = [k for k in range(len(lot)) if k not in taken]
        self.assertIs(type(base), tuple)
        self.assertEqual(len(base), len(left), about)
        for k, row in zip(left, base):
            self.assertIsNotNone(oracles.paper(model, row), about)
            unknown, growth = lot[k]
            self.assertEqual(row[unknown][growth], ONE, about)
            ahead = [lot[at] for at in taken if at < k] + [lot[k]]
            self.assertTrue(set(oracles.places_of(row)) <= set(ahead), about)
            self.assertEqual(len(row), len(model))
        self.check_equal(base, base)
        self.check_equal(tie_on(model, lot), base[0] if base else None)

    def test_ordinary(self):
        source, found = Random(133), {}
        for model in MODELS:
            for lot in some_lots(source, model):
                found[self.check_lot(model, lot)] = True
        self.assertEqual(len(found), 4)

    def test_all_places_with_growths_below_the_greatest_order_settle(self):
        for model in MODELS:
            greatest = max(len(item) - 1 for row in model for item in row)
            lot = tuple((unknown, growth) for unknown in range(len(model)) for growth in range(greatest))
            self.assertIs(settles(model, lot), True)

    def test_state_lots_have_as_many_places_as_there_are_starts(self):
        source, seen = Random(134), 0
        for model in MODELS:
            starts = oracles.free_starts(model)
            for _ in range(4):
                lot = makers.some_lot(source, len(model), starts, 4)
                state = is_state_lot(model, lot)
                self.assertIs(is_free(model, lot), state)
                self.assertIs(settles(model, lot), state)
                seen += state
        self.assertGreater(seen, 20)

    def test_ranks_of_lots_within(self):
        """The rank is the number of places of the greatest free lots within."""
        source = Random(135)
        for model in MODELS[:20]:
            lot = makers.some_lot(source, len(model), 5, 3)
            sizes = [
                size for size in range(len(lot) + 1) for part in combinations(lot, size) if is_free(model, part)
            ]
            self.assertEqual(lot_rank(model, lot), max(sizes))

    def test_empty_lots(self):
        for model in MODELS:
            starts = oracles.free_starts(model)
            self.assertEqual(self.check_lot(model, ()), (True, starts == 0))

    def test_no_starts(self):
        for model in (ROD, makers.unit_table(2), ((UNIT,),)):
            last = len(model) - 1
            self.assertEqual(self.check_lot(model, ()), (True, True))
            self.assertEqual(self.check_lot(model, ((0, 0),)), (False, True))
            lot = ((0, 3), (last, 40)) if last else ((0, 3), (0, 40))
            self.assertEqual(self.check_lot(model, lot), (False, True))
            self.check_equal(lot_rank(model, lot), 0)

    def test_places_that_no_motion_tells(self):
        self.assertEqual(self.check_lot(BAR, ((2, 0),)), (False, False))
        self.check_equal(tie_on(BAR, ((2, 0),)), ((), (), UNIT))
        self.check_equal(ties_on(BAR, ((0, 0), (2, 1), (2, 3))), (((), (), S), ((), (), (NIL, NIL, NIL, ONE))))
        self.assertEqual(self.check_lot(BAR, ((0, 0), (0, 1), (2, 1))), (False, True))
        self.check_equal(ties_on(LOOSE, ((0, 2), (1, 0), (1, 2))), ((SS, (), ()), ((), SS, ())))

    def test_by_hand(self):
        self.check_equal(ties_on(SPRING, ((0, 0), (0, 2))), (((ONE, NIL, ONE),),))
        lot = ((0, 0), (0, 1), (0, 2), (0, 3))
        self.check_equal(ties_on(SPRING, lot), (((ONE, NIL, ONE),), ((NIL, ONE, NIL, ONE),)))
        self.check_equal(ties_on(BAR, ((0, 0), (1, 0), (1, 1))), ((HALF, UNIT, ()),))
        self.check_equal(tie_on(TURN, ((0, 0), (1, 1))), (UNIT, S))
        self.check_equal(tie_on(TURN, ((0, 0), (1, 0))), None)
        self.check_equal(tie_on(TWINS, ((0, 0), (1, 0))), ((), UNIT))
        self.assertIs(is_state_lot(TWINS, ((1, 0),)), False)

    def test_far_growths(self):
        for model in (SPRING, TURN, BAR, TWINS):
            last = len(model) - 1
            self.check_lot(model, tuple(sorted({(0, 38), (0, 40), (last, 1), (last, 39)})))

    def test_forty_places(self):
        lot = tuple((unknown, growth) for unknown in range(2) for growth in range(0, 40, 2))
        self.check_lot(TURN, lot)
        self.check_equal(len(ties_on(TURN, lot)), 38)

    def test_eight_unknowns(self):
        source = Random(136)
        model = makers.wide_model(source, 6)
        lot = tuple((unknown, 0) for unknown in range(8))
        self.assertIs(is_state_lot(model, lot), True)
        self.check_equal(ties_on(model, lot), ())
        self.check_equal(len(ties_on(model, lot + ((7, 1), (7, 2)))), 2)


class IsLotTest(Case):
    def test_lots(self):
        for model in MODELS[:10] + LOOSE_MODELS:
            last = len(model) - 1
            for lot in ((), ((0, 0),), ((0, 0), (last, 1)), ((0, 2), (0, 7), (last, 40)), ((last, 10 ** 30),)):
                self.assertIs(is_lot(model, lot), True)

    def test_other_values(self):
        for model in (SPRING, TWINS, BAR, LOOP, NOUGHT, (((),),)):
            for wrong, _ in wrongs.no_lots(len(model)):
                self.assertIs(is_lot(model, wrong), False)
            self.assertIs(is_lot(model, ((len(model), 0),)), False)


class FirstStateLotTest(Case):
    def check_first(self, model, places):
        space = oracles.Space(model, 1 + max([growth for _, growth in places], default=0))
        taken = tuple(sorted(places[k] for k in space.taken(places)))
        wanted = taken if len(taken) == space.starts else None
        self.check_equal(first_state_lot(model, places), wanted, (model, places))
        return wanted is None

    def test_ordinary(self):
        source, found = Random(137), {}
        for model in MODELS:
            for _ in range(5):
                places = makers.some_places(source, len(model), source.randint(0, 9), source.choice((1, 2, 4)))
                found[self.check_first(model, places)] = True
        self.assertEqual(len(found), 2)

    def test_least_costs(self):
        """In an ascending order of costs greed takes the least sum of costs of all state lots."""
        source, seen = Random(138), 0
        for model in [model for model in MODELS if 0 < oracles.free_starts(model) < 4]:
            places = makers.some_places(source, len(model), 6, 3)
            costs = {place: source.randint(0, 9) for place in places}
            told = first_state_lot(model, tuple(sorted(places, key=lambda place: costs[place])))
            lots = [
                lot for lot in combinations(sorted(places), oracles.free_starts(model)) if is_state_lot(model, lot)
            ]
            sums = [sum(costs[place] for place in lot) for lot in lots]
            self.assertEqual(told is None, not lots)
            if told is not None:
                seen += 1
                self.assertIn(told, lots)
                self.assertEqual(sum(costs[place] for place in told), min(sums))
        self.assertGreater(seen, 5)

    def test_orders_matter(self):
        self.check_equal(first_state_lot(TURN, ((0, 0), (0, 1), (1, 0))), ((0, 0), (0, 1)))
        self.check_equal(first_state_lot(TURN, ((0, 0), (1, 0), (0, 1))), ((0, 0), (1, 0)))
        self.check_equal(first_state_lot(TURN, ((1, 0), (0, 1), (0, 0))), ((0, 0), (1, 0)))
        self.check_equal(first_state_lot(BAR, ((1, 9), (1, 1), (0, 1), (2, 0), (0, 0))), ((0, 0), (1, 1)))

    def test_edges(self):
        self.check_equal(first_state_lot(ROD, ()), ())
        self.check_equal(first_state_lot(ROD, ((2, 1), (0, 0))), ())
        self.check_equal(first_state_lot(SPRING, ()), None)
        self.check_equal(first_state_lot(SPRING, ((0, 40), (0, 39))), ((0, 39), (0, 40)))
        self.check_equal(first_state_lot(SPRING, ((0, 40), (0, 38), (0, 2), (0, 0))), None)


class ArgumentsTest(Case):
    def calls(self, model):
        return [(call, {"model": model, "lot": ()}) for call in ON_LOTS] + [
            (first_state_lot, {"model": model, "places": ()}),
        ]

    def test_names(self):
        for call, right in self.calls(TURN) + [(is_lot, {"model": TURN, "value": ()})]:
            self.check_right(call, right, module)

    def test_wrong_models(self):
        for call, right in self.calls(TURN):
            for wrong in wrongs.no_models():
                self.check_given(InvalidModel, wrong, call, **{**right, "model": wrong})
            for loose in LOOSE_MODELS:
                self.check_error(NotSolvable, call, **{**right, "model": loose})
        for wrong in wrongs.no_models():
            for value in ((), None, ((0, 0),), wrongs.Touchy()):
                self.check_given(InvalidModel, wrong, is_lot, wrong, value)

    def test_wrong_lots(self):
        for model in (SPRING, TURN, BAR):
            for wrong, index in wrongs.no_lots(len(model)):
                for call in ON_LOTS:
                    self.check_index(InvalidLot, index, call, model, wrong)
                self.check_index(InvalidLot, index, is_free, lot=wrong, model=model)

    def test_wrong_places(self):
        for model in (SPRING, TURN, BAR):
            for wrong, index in wrongs.no_place_tuples(len(model)):
                self.check_index(InvalidPlaces, index, first_state_lot, model, wrong)
                self.check_index(InvalidPlaces, index, first_state_lot, places=wrong, model=model)

    def test_turns(self):
        for call, right in self.calls(TURN):
            self.check_turns(call, right, {
                "model": wrongs.MODEL_TURNS,
                "lot": wrongs.LOT_TURNS,
                "places": [(None, InvalidPlaces, (None,)), (((0, 1), (0, 1)), InvalidPlaces, (1,))],
            })


if __name__ == "__main__":
    unittest.main()
