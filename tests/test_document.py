"""The examples of the document, word for word, as far as their modules are written."""

import unittest

MODELS = """
>>> from hiddenties.models import determinant_of, forcings_of, free_starts, is_solvable, is_sound, leading_numbers, loose_row, loose_unknowns, pattern_of
>>> one, less, nil = (1, 1), (-1, 1), (0, 1)
>>> s, ss, unit = (nil, one), (nil, nil, one), (one,)
>>> spring, rod = (((one, nil, one),),), ((ss, (), unit), ((nil, less), unit, ()), (unit, (), ()))
>>> twins, loop = ((s, s), (s, (one, one))), ((s, ss), (unit, s))
>>> [pattern_of(rod), pattern_of(twins), determinant_of(spring), determinant_of(rod), determinant_of(twins), determinant_of(loop)]
[((2, None, 0), (1, 0, None), (0, None, None)), ((1, 1), (1, 1)), ((1, 1), (0, 1), (1, 1)), ((-1, 1),), ((0, 1), (1, 1)), ()]
>>> [free_starts(spring), free_starts(rod), free_starts(twins), is_solvable(loop), loose_row(spring), loose_unknowns(twins)]
[2, 0, 1, False, None, None]
>>> [is_sound(spring), is_sound(rod), is_sound(twins), is_sound(loop), leading_numbers(twins, ((0, 0), (1, 1))), leading_numbers(rod, ((0, 0, 2), (2, 0, 0)))]
[True, True, False, False, (((1, 1), (1, 1)), ((1, 1), (1, 1))), (((1, 1), (0, 1), (1, 1)), ((0, 1), (1, 1), (0, 1)), ((1, 1), (0, 1), (0, 1)))]
>>> forcings_of(rod, ((one, nil, (2, 1)), (less, one, one), (nil, one, nil)))
(((2, 1),), ((-1, 1), (-1, 1)), ((1, 1), (0, 1), (2, 1)))
>>> free_starts(loop)
raises NotSolvable()
"""

PATTERNS = """
>>> from hiddenties.blocks import block_of, blocks, needed_blocks, used_spots
>>> from hiddenties.choices import choice_weight, heaviest_choice, heaviest_choices, heaviest_weight, is_choice, room_at, short_lot
>>> from hiddenties.models import is_sound, pattern_of
>>> from hiddenties.offsets import are_best, are_offsets, least_offsets, most_grown, span_of, tight_spots
>>> from hiddenties.sures import weak_model, is_sure, sound_model
>>> swing = ((2, None, 0), (None, 2, 0), (0, 0, None))
>>> chain, short = ((1, 0), (None, 0)), ((0, 0, None), (1, 0, None), (0, 2, None))
>>> [heaviest_choice(swing), heaviest_choices(swing), heaviest_weight(swing), choice_weight(swing, (2, 1, 0)), is_choice(swing, (1, 0, 2))]
[(0, 2, 1), ((0, 2, 1), (2, 1, 0)), 2, 2, False]
>>> [heaviest_choice(short), heaviest_weight(short), short_lot(short), short_lot(swing), room_at(chain, 1, 0), room_at(chain, 0, 1), room_at(swing, 2, 2)]
[None, None, (0, 1, 2), None, 1, None, -2]
>>> [least_offsets(swing), most_grown(swing), are_best(swing, ((1, 1, 3), (3, 3, 1))), are_best(swing, ((0, 0, 0), (2, 2, 0))), span_of(swing, ((0, 0, 0), (2, 2, 0))), are_offsets(swing, ((0, 0, 2), (2, 1, 0)))]
[((0, 0, 2), (2, 2, 0)), 2, True, False, 4, False]
>>> [tight_spots(swing, ((0, 0, 2), (2, 2, 0))), least_offsets(chain), tight_spots(chain, least_offsets(chain))]
[((0, 0), (0, 2), (1, 1), (1, 2), (2, 0), (2, 1)), ((0, 0), (1, 0)), ((0, 0), (0, 1), (1, 1))]
>>> [is_sure(swing), is_sure(chain), is_sure(short), weak_model(chain), sound_model(short)]
[False, True, False, None, None]
>>> [pattern_of(weak_model(swing)) == swing, is_sound(weak_model(swing)), is_sound(sound_model(swing)), pattern_of(sound_model(chain)) == chain]
[True, False, True, True]
>>> [used_spots(chain), blocks(chain), needed_blocks(chain, 1), needed_blocks(chain, 0), block_of(chain, 0), blocks(swing)]
[((0, 0), (1, 1)), (((1,), (1,)), ((0,), (0,))), (0,), (), 1, (((0, 1, 2), (0, 1, 2)),)]
>>> least_offsets(short)
raises NoChoice()
"""

MENDED = """
>>> from hiddenties.mended import is_mending, mended
>>> [is_sound(mended(rod)), is_mending(twins, ((unit, ()), ((less,), unit))), is_mending(twins, ((unit, ()), (unit, unit))), is_sound(mended(twins)), free_starts(mended(twins))]
[True, True, False, True, 1]
"""


def parts_of(text):
    """The statements, each with what the document tells of it, '' for nothing."""
    found = []
    for line in text.strip().split("\n"):
        if line.startswith(">>> "):
            found.append([line[4:], ""])
        else:
            found[-1][1] = line
    return found


class DocumentTest(unittest.TestCase):
    def check_part(self, code, told, names):
        """Values are told as Python shows them; errors by their class, behind the word raises."""
        if told == "":
            exec(code, names)
        elif told.startswith("raises "):
            wanted = told[len("raises "):].split("(")[0]
            with self.assertRaises(ValueError) as caught:
                eval(code, names)
            self.assertEqual(caught.exception.__class__.__name__, wanted)
        else:
            self.assertEqual(repr(eval(code, names)), told)

    def test_examples(self):
        names, told_parts = {}, 0
        for text in (MODELS, PATTERNS, MENDED):
            for code, told in parts_of(text):
                with self.subTest(code=code):
                    self.check_part(code, told, names)
                told_parts += told != ""
        self.assertEqual(told_parts, 14)


if __name__ == "__main__":
    unittest.main()
