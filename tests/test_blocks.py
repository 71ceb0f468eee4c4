"""Points 16 and 17, and the interface of hiddenties/blocks.py."""

import unittest
from fractions import Fraction
from itertools import product
from random import Random

from hiddenties import blocks as module
from hiddenties.blocks import block_of, blocks, needed_blocks, used_spots
from hiddenties.errors import InvalidIndex, InvalidPattern, NoChoice
from hiddenties.models import leading_numbers
from hiddenties.sures import is_sure
from tests import makers, oracles, wrongs
from tests.helps import Case
from tests.makers import CHAIN, SHORT, SWING

# Each equation needs the unknown of the one behind it, and so all those behind that one.
STAIRS = ((0, 0, None, None), (None, 0, 0, None), (None, None, 0, 0), (None, None, None, 0))
# The two last ones need nothing; the one with the lesser equation is told first.
FORK = ((0, 0, 0), (None, 0, None), (None, None, 0))


def ordinary():
    small = [(tuple(told[:2]), tuple(told[2:])) for told in product((None, 0, 1), repeat=4)]
    found = makers.some_patterns(61, 200, (1, 2, 3)) + makers.some_patterns(62, 60, (4,), 1) + small
    alike = [((order,) * many,) * many for many in (1, 2, 3, 4) for order in (0, 1)]
    return makers.with_choices(found) + alike + [SWING, CHAIN, STAIRS, FORK, tuple(reversed(STAIRS))]


class BlocksTest(Case):
    def test_used_spots(self):
        for pattern in ordinary():
            self.check_equal(used_spots(pattern), oracles.used_spots(pattern), pattern)

    def test_blocks_and_what_they_need(self):
        found = {}
        for pattern in ordinary():
            told, needed = oracles.blocks(pattern)
            self.check_equal(blocks(pattern), told, pattern)
            for k, wanted in enumerate(needed):
                self.check_equal(needed_blocks(pattern, k), wanted, pattern)
                found[len(told), len(wanted)] = True
            for k, (equations, unknowns) in enumerate(told):
                self.assertEqual(len(equations), len(unknowns))
                for equation in equations:
                    self.check_equal(block_of(pattern, equation), k)
        for kind in ((1, 0), (2, 0), (2, 1), (3, 2), (4, 3)):
            self.assertIn(kind, found)

    def test_sure_patterns_have_blocks_of_one_equation(self):
        for pattern in ordinary():
            self.assertIs(is_sure(pattern), len(blocks(pattern)) == len(pattern))

    def test_stairs(self):
        self.check_equal(blocks(STAIRS), (((3,), (3,)), ((2,), (2,)), ((1,), (1,)), ((0,), (0,))))
        self.check_equal(needed_blocks(STAIRS, 3), (0, 1, 2))
        self.check_equal(needed_blocks(STAIRS, 2), (0, 1))
        self.check_equal(needed_blocks(STAIRS, 0), ())
        self.check_equal(block_of(STAIRS, 0), 3)

    def test_several_blocks_that_could_come_first(self):
        self.check_equal(blocks(FORK), (((1,), (1,)), ((2,), (2,)), ((0,), (0,))))
        self.check_equal(needed_blocks(FORK, 2), (0, 1))
        self.check_equal(needed_blocks(FORK, 1), ())
        apart = ((None, None, 0), (None, 3, None), (1, None, None))
        self.check_equal(blocks(apart), (((0,), (2,)), ((1,), (1,)), ((2,), (0,))))
        # Behind equation 1 both 0 and 2 are ready, so equation 0 is told ahead of 2.
        late = ((0, 0, None), (None, 0, None), (None, None, 0))
        self.check_equal(blocks(late), (((1,), (1,)), ((0,), (0,)), ((2,), (2,))))

    def test_only_tight_spots_are_needed(self):
        # With orders 1 and 0 in the first row the other unknown is settled higher up, so nothing is needed.
        self.check_equal(blocks(((1, 0), (None, 1))), (((0,), (0,)), ((1,), (1,))))
        self.check_equal(needed_blocks(((1, 0), (None, 1)), 0), ())
        self.check_equal(needed_blocks(((1, 1), (None, 1)), 1), (0,))

    def test_determinant_of_tight_numbers_is_the_product_of_the_blocks(self):
        source = Random(63)
        for pattern in ordinary():
            numbers = leading_numbers(makers.some_model(source, pattern), oracles.least_offsets(pattern))
            whole, parts = oracles.number_determinant(numbers), Fraction(1)
            for equations, unknowns in blocks(pattern):
                parts *= oracles.number_determinant([[numbers[i][j] for j in unknowns] for i in equations])
            self.assertEqual(abs(whole), abs(parts))

    def test_eight_unknowns(self):
        many = range(8)
        stairs = tuple(tuple(j if i <= j else None for j in many) for i in many)
        self.check_equal(used_spots(stairs), tuple((i, i) for i in many))
        self.check_equal(blocks(stairs), tuple(((i,), (i,)) for i in reversed(many)))
        self.check_equal(needed_blocks(stairs, 7), tuple(range(7)))
        full = ((4,) * 8,) * 8
        self.check_equal(blocks(full), ((tuple(many), tuple(many)),))
        self.check_equal(used_spots(full), tuple((i, j) for i in many for j in many))


class ArgumentsTest(Case):
    def test_no_choice(self):
        for pattern in makers.without_choices(makers.some_patterns(64, 60)) + [SHORT, ((None,),)]:
            self.check_error(NoChoice, used_spots, pattern)
            self.check_error(NoChoice, blocks, pattern)
            self.check_error(NoChoice, block_of, pattern, 0)
            self.check_error(NoChoice, needed_blocks, pattern, 0)

    def test_wrong_patterns(self):
        for wrong in wrongs.no_patterns():
            self.check_given(InvalidPattern, wrong, used_spots, wrong)
            self.check_given(InvalidPattern, wrong, blocks, wrong)
            self.check_given(InvalidPattern, wrong, block_of, wrong, 0)
            self.check_given(InvalidPattern, wrong, needed_blocks, wrong, 0)

    def test_wrong_indexes(self):
        for pattern in (SWING, CHAIN, STAIRS, ((2,),)):
            for wrong in wrongs.no_indexes(len(pattern)):
                self.check_given(InvalidIndex, wrong, block_of, pattern, wrong)
                self.check_given(InvalidIndex, wrong, block_of, equation=wrong, pattern=pattern)
            for wrong in wrongs.no_indexes(len(blocks(pattern))):
                self.check_given(InvalidIndex, wrong, needed_blocks, pattern, wrong)
                self.check_given(InvalidIndex, wrong, needed_blocks, block=wrong, pattern=pattern)
        # An index of an equation is not always one of a block.
        self.check_given(InvalidIndex, 1, needed_blocks, SWING, 1)

    def test_several_wrong_arguments(self):
        for wrong in (None, [[0]], ((0, -1), (0, 0)), wrongs.Touchy()):
            self.check_given(InvalidPattern, wrong, block_of, wrong, -1)
            self.check_given(InvalidPattern, wrong, needed_blocks, wrong, None)
            self.check_given(InvalidPattern, wrong, needed_blocks, block=-1, pattern=wrong)
        # An index of an equation is looked at ahead of the choices, one of a block behind them.
        for wrong in (3, -1, None, True):
            self.check_given(InvalidIndex, wrong, block_of, SHORT, wrong)
            self.check_error(NoChoice, needed_blocks, SHORT, wrong)

    def test_names(self):
        for call in (used_spots, blocks):
            self.check_names(call, "pattern")
            self.assertEqual(call(pattern=CHAIN), call(CHAIN))
        self.check_names(block_of, "pattern", "equation")
        self.check_names(needed_blocks, "pattern", "block")
        self.assertEqual(block_of(equation=0, pattern=CHAIN), 1)
        self.assertEqual(needed_blocks(block=1, pattern=CHAIN), (0,))

    def test_home(self):
        for call in (used_spots, blocks, block_of, needed_blocks):
            self.check_home(call, module.__name__)


if __name__ == "__main__":
    unittest.main()
