"""Points 10 and 11, and the interface of hiddenties/choices.py."""

import unittest
from itertools import permutations, product
from random import Random

from hiddenties import choices
from hiddenties.choices import (
    choice_weight, heaviest_choice, heaviest_choices, heaviest_weight, is_choice, room_at, short_lot,
)
from hiddenties.errors import InvalidChoice, InvalidIndex, InvalidPattern, NoChoice
from tests import makers, oracles, wrongs
from tests.helps import Case
from tests.makers import CHAIN, SHORT, SWING

OF_PATTERN = (heaviest_choice, heaviest_choices, heaviest_weight, short_lot)


def ordinary():
    """Patterns of one to four unknowns, also all of two with orders up to 2."""
    small = [
        (tuple(told[:2]), tuple(told[2:])) for told in product((None, 0, 1, 2), repeat=4)
    ]
    return makers.some_patterns(31, 250) + makers.some_patterns(32, 60, (3, 4, 5), 9) + small + [((None,),), ((7,),)]


class ChoicesTest(Case):
    def test_is_choice(self):
        for pattern in makers.some_patterns(33, 60, (1, 2, 3)):
            told = oracles.all_choices(pattern)
            for value in product(range(len(pattern)), repeat=len(pattern)):
                self.assertIs(is_choice(pattern, value), value in told, (pattern, value))

    def test_other_values_are_no_choices(self):
        for pattern in (SWING, CHAIN, ((4,),), ((0, 0), (0, 0)), ((None, 0), (0, None))):
            for choice in oracles.all_choices(pattern):
                self.assertIs(is_choice(pattern, choice), True)
                for value in wrongs.no_choices(pattern, choice):
                    self.assertIs(is_choice(pattern, value), False, (pattern, value))

    def test_no_value_is_a_choice_where_there_is_none(self):
        for pattern in (SHORT, ((None,),), ((0, None), (0, None)), ((None, None), (0, 0))):
            for value in list(permutations(range(len(pattern)))) + wrongs.anything():
                self.assertIs(is_choice(pattern, value), False)

    def test_weight(self):
        for pattern in ordinary():
            for choice in oracles.all_choices(pattern)[:6]:
                self.check_equal(choice_weight(pattern, choice), oracles.weight(pattern, choice))

    def test_weight_of_what_is_no_choice(self):
        for pattern, choice in ((SWING, (0, 2, 1)), (CHAIN, (0, 1)), (((3,),), (0,))):
            for wrong in wrongs.no_choices(pattern, choice):
                self.check_given(InvalidChoice, wrong, choice_weight, pattern, wrong)
        self.check_given(InvalidChoice, (0, 1, 2), choice_weight, SHORT, (0, 1, 2))
        self.check_given(InvalidChoice, (1, 0, 2), choice_weight, pattern=SWING, choice=(1, 0, 2))

    def test_heaviest(self):
        for pattern in ordinary():
            most, told = oracles.heaviest(pattern)
            self.check_equal(heaviest_weight(pattern), most, pattern)
            self.check_equal(heaviest_choices(pattern), told, pattern)
            self.check_equal(heaviest_choice(pattern), told[0] if told else None, pattern)

    def test_ordinary_patterns_are_of_each_kind(self):
        found = [len(oracles.heaviest(pattern)[1]) for pattern in ordinary()]
        for many in (0, 1, 2, 3, 6):
            self.assertIn(many, found)

    def test_heaviest_of_more_unknowns(self):
        source = Random(34)
        for pattern in [makers.some_pattern(source, 6, 12, gaps) for gaps in (0, 2, 4, 6, 7)]:
            most, told = oracles.heaviest(pattern)
            self.check_equal(heaviest_weight(pattern), most)
            self.check_equal(heaviest_choices(pattern), told)
            self.check_equal(heaviest_choice(pattern), told[0] if told else None)

    def test_heaviest_of_eight_unknowns(self):
        many = range(8)
        pattern = tuple(tuple(12 if (i + j) % 8 in (3, 4) else None for j in many) for i in many)
        one, other = tuple((3 - i) % 8 for i in many), tuple((4 - i) % 8 for i in many)
        self.check_equal(heaviest_weight(pattern), 96)
        self.check_equal(heaviest_choices(pattern), tuple(sorted((one, other))))
        self.check_equal(heaviest_choice(pattern), min(one, other))
        self.check_equal(heaviest_choice(((1,) * 8,) * 8), tuple(many))
        self.check_equal(heaviest_weight(((1,) * 8,) * 8), 8)

    def test_all_choices_of_seven_unknowns(self):
        self.check_equal(heaviest_choices(((2,) * 7,) * 7), tuple(permutations(range(7))))

    def test_orders_that_differ_much(self):
        # A choice that mentions less must not win over one that weighs little.
        self.check_equal(heaviest_choices(((12, 0), (0, None))), ((1, 0),))
        self.check_equal(heaviest_weight(((12, 0), (0, None))), 0)
        self.check_equal(heaviest_choices(((12, 12, 0), (12, 12, None), (0, None, None))), ((2, 1, 0),))
        self.check_equal(heaviest_weight(((10 ** 300, 0), (0, None))), 0)
        self.check_equal(heaviest_weight(((10 ** 300, 0), (0, 1))), 10 ** 300 + 1)

    def test_short_lot(self):
        for pattern in ordinary():
            lot = short_lot(pattern)
            if oracles.all_choices(pattern):
                self.assertIsNone(lot, pattern)
            else:
                self.assertTrue(oracles.is_short_lot(pattern, lot), (pattern, lot))

    def test_short_lot_of_an_equation_that_mentions_no_unknown(self):
        self.check_equal(short_lot(((None,),)), (0,))
        self.check_equal(short_lot(((0, 1), (None, None))), (1,))
        self.check_equal(short_lot(((0, None, 1), (None, None, None), (0, 0, 0))), (1,))

    def test_short_lot_of_eight_equations(self):
        pattern = ((0,) * 8,) * 2 + ((None, None, 3, None, 4, None, 5, None),) * 4 + ((1,) * 8,) * 2
        self.assertTrue(oracles.is_short_lot(pattern, short_lot(pattern)))
        self.assertIsNone(heaviest_choice(pattern))
        self.assertIsNone(heaviest_weight(pattern))
        self.check_equal(heaviest_choices(pattern), ())


class RoomTest(Case):
    def test_ordinary(self):
        found = {}
        for pattern in makers.with_choices(ordinary()):
            for i, row in enumerate(pattern):
                for j, order in enumerate(row):
                    room = room_at(pattern, i, j)
                    self.check_equal(room, oracles.room(pattern, i, j), (pattern, i, j))
                    found["none" if room is None else "low" if room < 0 else "high", order is None] = True
        for kind in (("none", True), ("low", True), ("high", True), ("high", False)):
            self.assertIn(kind, found)

    def test_meaning(self):
        """With the room as the order the weight stays, with one more it grows."""
        for pattern in makers.with_choices(makers.some_patterns(35, 60, (1, 2, 3))):
            most = oracles.heaviest(pattern)[0]
            for i in range(len(pattern)):
                for j in range(len(pattern)):
                    room = room_at(pattern, i, j)
                    if room is not None and room >= 0:
                        self.assertEqual(heaviest_weight(self.placed(pattern, i, j, room)), most)
                    if room is not None and room >= -1:
                        self.assertEqual(heaviest_weight(self.placed(pattern, i, j, room + 1)), most + 1)
                    if room is None:
                        self.assertEqual(heaviest_weight(self.placed(pattern, i, j, 99)), most)

    def placed(self, pattern, i, j, order):
        return makers.with_row(pattern, i, pattern[i][:j] + (order,) + pattern[i][j + 1:])

    def test_edges(self):
        self.check_equal(room_at(((5,),), 0, 0), 5)
        self.check_equal(room_at(((0, None), (None, 0)), 0, 1), None)
        self.check_equal(room_at(((3, None), (4, 0)), 0, 1), -1)
        self.check_equal(room_at(((0, None), (9, 0)), 0, 1), -9)

    def test_no_choice(self):
        for pattern in (SHORT, ((None,),), ((0, None), (0, None))):
            for i in range(len(pattern)):
                self.check_error(NoChoice, room_at, pattern, i, 0)

    def test_wrong_indexes(self):
        for pattern in (SWING, SHORT, ((2,),)):
            for wrong in wrongs.no_indexes(len(pattern)):
                self.check_given(InvalidIndex, wrong, room_at, pattern, wrong, 0)
                self.check_given(InvalidIndex, wrong, room_at, pattern, 0, wrong)
                self.check_given(InvalidIndex, wrong, room_at, unknown=0, equation=wrong, pattern=pattern)


class ArgumentsTest(Case):
    def test_wrong_patterns(self):
        for wrong in wrongs.no_patterns():
            for call in OF_PATTERN:
                self.check_given(InvalidPattern, wrong, call, wrong)
            self.check_given(InvalidPattern, wrong, is_choice, wrong, (0,))
            self.check_given(InvalidPattern, wrong, choice_weight, wrong, (0,))
            self.check_given(InvalidPattern, wrong, room_at, wrong, 0, 0)

    def test_several_wrong_arguments(self):
        for wrong in (None, [[0]], ((0, 0),), ((True,),), wrongs.Touchy()):
            self.check_given(InvalidPattern, wrong, is_choice, wrong, wrongs.Touchy())
            self.check_given(InvalidPattern, wrong, choice_weight, wrong, None)
            self.check_given(InvalidPattern, wrong, room_at, wrong, -1, -1)
            self.check_given(InvalidPattern, wrong, room_at, unknown=-1, equation=None, pattern=wrong)
        early, late = [0], [1]
        self.check_given(InvalidIndex, early, room_at, SWING, early, late)
        self.check_given(InvalidIndex, late, room_at, SHORT, 0, late)
        self.check_given(InvalidIndex, early, room_at, SHORT, unknown=late, equation=early)

    def test_names(self):
        for call in OF_PATTERN:
            self.check_names(call, "pattern")
            self.assertEqual(call(pattern=SWING), call(SWING))
        self.check_names(is_choice, "pattern", "value")
        self.check_names(choice_weight, "pattern", "choice")
        self.check_names(room_at, "pattern", "equation", "unknown")
        self.assertIs(is_choice(value=(2, 1, 0), pattern=SWING), True)
        self.assertEqual(choice_weight(choice=(2, 1, 0), pattern=SWING), 2)
        self.assertEqual(room_at(unknown=0, equation=1, pattern=CHAIN), 1)

    def test_home(self):
        for call in OF_PATTERN + (is_choice, choice_weight, room_at):
            self.check_home(call, choices.__name__)


if __name__ == "__main__":
    unittest.main()
