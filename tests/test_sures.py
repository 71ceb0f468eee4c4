"""Point 15, and the interface of hiddenties/sures.py."""

import unittest
from itertools import product
from random import Random

from hiddenties import sures
from hiddenties.choices import heaviest_weight
from hiddenties.errors import InvalidPattern
from hiddenties.models import determinant_of, is_model
from hiddenties.sures import is_sure, sound_model, weak_model
from tests import makers, oracles, wrongs
from tests.helps import Case
from tests.makers import CHAIN, SHORT, SWING

ALL = (is_sure, weak_model, sound_model)


def ordinary():
    """Patterns of one to four unknowns, also all of two with orders up to 1."""
    small = [(tuple(told[:2]), tuple(told[2:])) for told in product((None, 0, 1), repeat=4)]
    alike = [((order,) * many,) * many for many in (1, 2, 3, 4) for order in (None, 0, 1, 9)]
    found = makers.some_patterns(51, 200) + makers.some_patterns(52, 20, (3, 4), 9)
    return found + small + alike + [SWING, CHAIN, SHORT]


class SuresTest(Case):
    def test_is_sure(self):
        found = {}
        for pattern in ordinary():
            wanted = len(oracles.heaviest(pattern)[1]) == 1
            self.check_equal(is_sure(pattern), wanted, pattern)
            found[wanted, len(oracles.all_choices(pattern)) > 0] = True
        self.assertEqual(sorted(found), [(False, False), (False, True), (True, True)])

    def test_models_of_sure_patterns_are_sound(self):
        source = Random(53)
        for pattern in ordinary():
            if is_sure(pattern):
                for _ in range(3):
                    self.assertTrue(oracles.is_sound(makers.some_model(source, pattern)), pattern)

    def test_weak_model(self):
        for pattern in ordinary():
            model, told = weak_model(pattern), oracles.heaviest(pattern)[1]
            if len(told) == 1:
                self.assertIsNone(model, pattern)
                continue
            self.assertIs(is_model(model), True)
            self.assertEqual(oracles.orders(model), pattern)
            self.assertFalse(oracles.is_sound(model), pattern)

    def test_sound_model(self):
        for pattern in ordinary():
            model = sound_model(pattern)
            if not oracles.all_choices(pattern):
                self.assertIsNone(model, pattern)
                continue
            self.assertIs(is_model(model), True)
            self.assertEqual(oracles.orders(model), pattern)
            self.assertTrue(oracles.is_sound(model), pattern)

    def test_all_spots_at_one_order(self):
        for many in (2, 3, 4, 5, 8):
            for order in (0, 1, 12):
                pattern = ((order,) * many,) * many
                self.assertIs(is_sure(pattern), False)
                self.assertEqual(oracles.orders(weak_model(pattern)), pattern)
                self.assertLess(len(determinant_of(weak_model(pattern))), many * order + 1)
                self.assertEqual(oracles.orders(sound_model(pattern)), pattern)
                self.assertEqual(len(determinant_of(sound_model(pattern))), many * order + 1)

    def test_patterns_without_a_choice(self):
        for pattern in makers.without_choices(ordinary()) + [((None,),), ((None,) * 8,) * 8]:
            self.assertIs(is_sure(pattern), False)
            self.assertIsNone(sound_model(pattern))
            self.assertEqual(oracles.orders(weak_model(pattern)), pattern)

    def test_eight_unknowns(self):
        many = range(8)
        ring = tuple(tuple(j if (i + j) % 8 in (3, 4) else None for j in many) for i in many)
        stairs = tuple(tuple(5 if i <= j else None for j in many) for i in many)
        mixed = tuple(tuple(i + j if (i * j) % 3 != 1 else None for j in many) for i in many)
        for pattern, sure in ((ring, False), (stairs, True), (mixed, False)):
            self.assertIs(is_sure(pattern), sure)
            weight = heaviest_weight(pattern)
            self.assertEqual(len(determinant_of(sound_model(pattern))), weight + 1)
            if sure:
                self.assertIsNone(weak_model(pattern))
            else:
                self.assertEqual(oracles.orders(weak_model(pattern)), pattern)
                self.assertLess(len(determinant_of(weak_model(pattern))), weight + 1)


class ArgumentsTest(Case):
    def test_wrong_patterns(self):
        for wrong in wrongs.no_patterns():
            for call in ALL:
                self.check_given(InvalidPattern, wrong, call, wrong)
                self.check_given(InvalidPattern, wrong, call, pattern=wrong)

    def test_names(self):
        for call in ALL:
            self.check_names(call, "pattern")
            self.assertEqual(call(pattern=SWING), call(SWING))
            self.check_home(call, sures.__name__)


if __name__ == "__main__":
    unittest.main()
