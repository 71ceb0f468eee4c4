"""Points 12 and 13, and the interface of hiddenties/offsets.py."""

import unittest
from itertools import product
from random import Random

from hiddenties import offsets
from hiddenties.choices import heaviest_weight
from hiddenties.errors import InvalidOffsets, InvalidPattern, NoChoice
from hiddenties.offsets import are_best, are_offsets, least_offsets, most_grown, span_of, tight_spots
from tests import makers, oracles, wrongs
from tests.helps import Case
from tests.makers import CHAIN, SHORT, SWING

OF_PATTERN = (least_offsets, most_grown)
STAIRS = ((2, 0, None), (None, 2, 1), (None, None, 3))


def ordinary():
    found = makers.some_patterns(41, 160, (1, 2, 3)) + makers.some_patterns(42, 20, (4,), 1)
    return found + [((0,),), ((9,),), SWING, CHAIN, STAIRS, ((3, 3), (3, 3)), ((0, 0, 0),) * 3]


def some_offsets(source, pattern):
    """Offsets, some of them best, some not."""
    grown = tuple(source.randint(0, 3) for _ in pattern)
    return grown, tuple(
        source.choice((0, 0, 0, 2)) + max([0] + [
            grown[i] + row[j] for i, row in enumerate(pattern) if row[j] is not None
        ]) for j in range(len(pattern))
    )


class OffsetsTest(Case):
    def test_are_offsets(self):
        found = {}
        for pattern in makers.some_patterns(43, 40, (1, 2), 2):
            for told in product(range(4), repeat=2 * len(pattern)):
                value = (told[:len(pattern)], told[len(pattern):])
                wanted = oracles.are_offsets(pattern, value)
                self.assertIs(are_offsets(pattern, value), wanted, (pattern, value))
                found[wanted] = True
        self.assertEqual(len(found), 2)

    def test_other_values_are_no_offsets(self):
        for pattern in (SWING, CHAIN, STAIRS, ((4,),), ((0, 0), (0, 0)), ((None, 0), (0, None))):
            for value in wrongs.no_offsets(pattern, oracles.least_offsets(pattern)):
                self.assertIs(are_offsets(pattern, value), False, (pattern, value))

    def test_patterns_without_choices_have_offsets_too(self):
        self.assertIs(are_offsets(((None,),), ((7,), (0,))), True)
        self.assertIs(are_offsets(SHORT, ((0, 0, 0), (1, 2, 0))), True)
        self.assertIs(are_offsets(SHORT, ((0, 0, 0), (1, 1, 0))), False)

    def test_span_and_tight_spots(self):
        source = Random(44)
        for pattern in ordinary():
            for _ in range(3):
                pair = some_offsets(source, pattern)
                self.check_equal(span_of(pattern, pair), sum(pair[1]) - sum(pair[0]))
                self.check_equal(tight_spots(pattern, pair), oracles.tight(pattern, pair))

    def test_a_span_below_nought(self):
        self.check_equal(span_of(((None,),), ((7,), (0,))), -7)
        self.check_equal(tight_spots(((None,),), ((7,), (0,))), ())
        self.check_equal(tight_spots(((None, 0), (None, 5)), ((6, 1), (0, 6))), ((0, 1), (1, 1)))

    def test_are_best(self):
        source, found = Random(45), {}
        for pattern in makers.with_choices(ordinary()):
            told = oracles.heaviest(pattern)[1]
            for pair in [some_offsets(source, pattern) for _ in range(4)] + oracles.best_offsets(pattern, 2):
                spots = oracles.tight(pattern, pair)
                along = [choice for choice in told if all(spot in spots for spot in enumerate(choice))]
                self.assertIs(are_best(pattern, pair), len(along) > 0, (pattern, pair))
                if along:
                    self.assertEqual(along, list(told))
                found[len(along) > 0] = True
        self.assertEqual(len(found), 2)

    def test_no_span_is_below_the_weight_of_a_choice(self):
        source = Random(46)
        for pattern in makers.with_choices(ordinary()):
            for _ in range(3):
                self.assertGreaterEqual(span_of(pattern, some_offsets(source, pattern)), oracles.heaviest(pattern)[0])

    def test_least_offsets(self):
        for pattern in makers.with_choices(ordinary()):
            wanted = oracles.least_offsets(pattern)
            self.check_equal(least_offsets(pattern), wanted, pattern)
            self.check_equal(most_grown(pattern), max(wanted[0]))
            self.assertIs(are_best(pattern, wanted), True)
            self.check_equal(span_of(pattern, wanted), oracles.heaviest(pattern)[0])

    def test_least_offsets_of_stairs(self):
        self.check_equal(least_offsets(STAIRS), ((0, 0, 0), (2, 2, 3)))
        self.check_equal(least_offsets(((0, 3, None), (None, 0, 3), (None, None, 0))), ((0, 3, 6), (0, 3, 6)))
        self.check_equal(most_grown(((0, 3, None), (None, 0, 3), (None, None, 0))), 6)

    def test_least_offsets_are_below_all_best_ones_of_larger_patterns(self):
        source = Random(47)
        for many in (5, 6, 7, 8):
            for pattern in makers.with_choices([makers.some_pattern(source, many, 12, 4) for _ in range(3)]):
                pair = least_offsets(pattern)
                self.assertTrue(oracles.are_offsets(pattern, pair))
                self.assertEqual(sum(pair[1]) - sum(pair[0]), heaviest_weight(pattern))
                self.assertIn(0, pair[0])

    def test_no_choice(self):
        for pattern in makers.without_choices(ordinary()) + [SHORT, ((None,),)]:
            for call in OF_PATTERN:
                self.check_error(NoChoice, call, pattern)
            pair = some_offsets(Random(48), pattern)
            self.check_error(NoChoice, are_best, pattern, pair)
            self.check_error(NoChoice, are_best, offsets=pair, pattern=pattern)


class ArgumentsTest(Case):
    def test_wrong_patterns(self):
        for wrong in wrongs.no_patterns():
            for call in OF_PATTERN:
                self.check_given(InvalidPattern, wrong, call, wrong)
            for call in (are_offsets, span_of, are_best, tight_spots):
                self.check_given(InvalidPattern, wrong, call, wrong, ((0,), (9,)))

    def test_wrong_offsets(self):
        for pattern in (SWING, CHAIN, ((2,),)):
            for wrong in wrongs.no_offsets(pattern, oracles.least_offsets(pattern)):
                for call in (span_of, are_best, tight_spots):
                    self.check_given(InvalidOffsets, wrong, call, pattern, wrong)

    def test_several_wrong_arguments(self):
        for wrong in (None, [[0]], ((0, -1), (0, 0)), wrongs.Touchy()):
            for call in (span_of, are_best, tight_spots):
                self.check_given(InvalidPattern, wrong, call, wrong, None)
                self.check_given(InvalidPattern, wrong, call, offsets=None, pattern=wrong)
            self.check_given(InvalidPattern, wrong, are_offsets, wrong, wrongs.Touchy())
        # Offsets are looked at before it is asked whether there is a choice.
        for wrong in (None, ((0, 0, 0), (0, 0, 0)), [(0, 0, 0), (1, 2, 0)]):
            self.check_given(InvalidOffsets, wrong, are_best, SHORT, wrong)

    def test_names(self):
        for call in OF_PATTERN:
            self.check_names(call, "pattern")
            self.assertEqual(call(pattern=SWING), call(SWING))
        self.check_names(are_offsets, "pattern", "value")
        pair = ((0, 0, 2), (2, 2, 0))
        self.assertIs(are_offsets(value=pair, pattern=SWING), True)
        for call in (span_of, are_best, tight_spots):
            self.check_names(call, "pattern", "offsets")
            self.assertEqual(call(offsets=pair, pattern=SWING), call(SWING, pair))

    def test_home(self):
        for call in OF_PATTERN + (are_offsets, span_of, are_best, tight_spots):
            self.check_home(call, offsets.__name__)


if __name__ == "__main__":
    unittest.main()
