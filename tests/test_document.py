"""The examples of the document, word for word."""

import unittest

MODELS = """
>>> from hiddenties.models import determinant_of, forcings_of, free_starts, is_solvable, is_sound, leading_numbers, loose_row, loose_unknowns, pattern_of
>>> one, less, nil = (1, 1), (-1, 1), (0, 1)
>>> s, ss, unit = (nil, one), (nil, nil, one), (one,)
>>> spring, rod = (((one, nil, one),),), ((ss, (), unit), ((nil, less), unit, ()), (unit, (), ()))
>>> twins, loop = ((s, s), (s, (one, one))), ((s, ss), (unit, s))
>>> [pattern_of(rod), pattern_of(twins), determinant_of(spring), determinant_of(rod), determinant_of(twins), determinant_of(loop)]
[((2, None, 0), (1, 0, None), (0, None, None)), ((1, 1), (1, 1)), ((1, 1), (0, 1), (1, 1)), ((-1, 1),), ((0, 1), (1, 1)), ()]
>>> [free_starts(spring), free_starts(rod), free_starts(twins), is_solvable(loop), loose_row(spring), loose_unknowns(twins)]
[2, 0, 1, False, None, None]
>>> [is_sound(spring), is_sound(rod), is_sound(twins), is_sound(loop), leading_numbers(twins, ((0, 0), (1, 1))), leading_numbers(rod, ((0, 0, 2), (2, 0, 0)))]
[True, True, False, False, (((1, 1), (1, 1)), ((1, 1), (1, 1))), (((1, 1), (0, 1), (1, 1)), ((0, 1), (1, 1), (0, 1)), ((1, 1), (0, 1), (0, 1)))]
>>> forcings_of(rod, ((one, nil, (2, 1)), (less, one, one), (nil, one, nil)))
(((2, 1),), ((-1, 1), (-1, 1)), ((1, 1), (0, 1), (2, 1)))
>>> free_starts(loop)
raises NotSolvable()
"""

PATTERNS = """
>>> from hiddenties.blocks import block_of, blocks, needed_blocks, used_spots
>>> from hiddenties.choices import choice_weight, heaviest_choice, heaviest_choices, heaviest_weight, is_choice, room_at, short_lot
>>> from hiddenties.models import is_sound, pattern_of
>>> from hiddenties.offsets import are_best, are_offsets, least_offsets, most_grown, span_of, tight_spots
>>> from hiddenties.sures import weak_model, is_sure, sound_model
>>> swing = ((2, None, 0), (None, 2, 0), (0, 0, None))
>>> chain, short = ((1, 0), (None, 0)), ((0, 0, None), (1, 0, None), (0, 2, None))
>>> [heaviest_choice(swing), heaviest_choices(swing), heaviest_weight(swing), choice_weight(swing, (2, 1, 0)), is_choice(swing, (1, 0, 2))]
[(0, 2, 1), ((0, 2, 1), (2, 1, 0)), 2, 2, False]
>>> [heaviest_choice(short), heaviest_weight(short), short_lot(short), short_lot(swing), room_at(chain, 1, 0), room_at(chain, 0, 1), room_at(swing, 2, 2)]
[None, None, (0, 1, 2), None, 1, None, -2]
>>> [least_offsets(swing), most_grown(swing), are_best(swing, ((1, 1, 3), (3, 3, 1))), are_best(swing, ((0, 0, 0), (2, 2, 0))), span_of(swing, ((0, 0, 0), (2, 2, 0))), are_offsets(swing, ((0, 0, 2), (2, 1, 0)))]
[((0, 0, 2), (2, 2, 0)), 2, True, False, 4, False]
>>> [tight_spots(swing, ((0, 0, 2), (2, 2, 0))), least_offsets(chain), tight_spots(chain, least_offsets(chain))]
[((0, 0), (0, 2), (1, 1), (1, 2), (2, 0), (2, 1)), ((0, 0), (1, 0)), ((0, 0), (0, 1), (1, 1))]
>>> [is_sure(swing), is_sure(chain), is_sure(short), weak_model(chain), sound_model(short)]
[False, True, False, None, None]
>>> [pattern_of(weak_model(swing)) == swing, is_sound(weak_model(swing)), is_sound(sound_model(swing)), pattern_of(sound_model(chain)) == chain]
[True, False, True, True]
>>> [used_spots(chain), blocks(chain), needed_blocks(chain, 1), needed_blocks(chain, 0), block_of(chain, 0), blocks(swing)]
[((0, 0), (1, 1)), (((1,), (1,)), ((0,), (0,))), (0,), (), 1, (((0, 1, 2), (0, 1, 2)),)]
>>> least_offsets(short)
raises NoChoice()
"""

MENDED = """
>>> from hiddenties.mended import is_mending, mended
>>> [is_sound(mended(rod)), is_mending(twins, ((unit, ()), ((less,), unit))), is_mending(twins, ((unit, ()), (unit, unit))), is_sound(mended(twins)), free_starts(mended(twins))]
[True, True, False, True, 1]
"""

MOTIONS = """
>>> from hiddenties.alikes import are_alike, change_between, factor_between, is_within, parting_motion
>>> from hiddenties.motions import all_motions, free_places, grown, growth_at, is_motion
>>> from hiddenties.ties import breaking_motion, is_tie, led_growth, ties_up_to, tie_paper
>>> [free_places(spring), all_motions(spring), growth_at(spring, ((one, nil),), 0, 2), growth_at(spring, ((one, nil),), 0, 7), grown(spring, ((one, nil),))]
[((0, 0), (0, 1)), ((((1, 1), (0, 1)),), (((0, 1), (1, 1)),)), (-1, 1), (0, 1), (((0, 1), (-1, 1)),)]
>>> [free_places(twins), all_motions(twins), is_motion(twins, ((one,), (nil,))), is_motion(twins, ((one,), (one,))), all_motions(rod), is_motion(rod, ((), (), ())), free_places(rod)]
[((0, 0),), ((((1, 1),), ((0, 1),)),), True, False, (), True, ()]
>>> [is_tie(twins, (s, ())), tie_paper(twins, (s, ())), tie_paper(twins, (unit, ())), is_tie(twins, (unit, ())), tie_paper(rod, ((), (), unit)), breaking_motion(twins, (s, ()))]
[True, (((1, 1), (1, 1)), ((0, 1), (-1, 1))), None, False, (((1, 1),), (), ((0, 1), (0, 1), (-1, 1))), None]
>>> [led_growth(spring, ((one, one),), ((one, nil),), 1), led_growth(twins, (unit, ()), ((one,), (nil,)), 0), ties_up_to(twins, (0, 0)), ties_up_to(twins, (1, None)), ties_up_to(spring, (2,))]
[(-1, 1), (1, 1), (((), ((1, 1),)),), ((((0, 1), (1, 1)), ()),), ((((1, 1), (0, 1), (1, 1)),),)]
>>> slack, plain = ((s, ()), ((), s)), ((s, s), ((), unit))
>>> [are_alike(twins, plain), change_between(twins, plain), are_alike(twins, slack), change_between(twins, slack), is_within(twins, slack), is_within(slack, twins), factor_between(twins, slack)]
[True, ((((1, 1),), ()), (((-1, 1),), ((1, 1),))), False, None, True, False, ((((1, 1), (1, 1)), ((0, 1), (-1, 1))), (((0, 1), (-1, 1)), ((0, 1), (1, 1))))]
>>> [parting_motion(twins, plain), parting_motion(twins, slack)[0], factor_between(slack, twins)]
[None, 1, None]
"""

STATES = """
>>> from hiddenties.models import free_starts, is_sound
>>> from hiddenties.plains import is_plain, plain_lot, plain_model
>>> from hiddenties.starts import broken_tie, course_with, motion_with, start_word
>>> from hiddenties.states import first_state_lot, is_free, is_lot, is_state_lot, lot_rank, settles, tie_on, ties_on
>>> from hiddenties.telling import expressed, growth_table, may_leave
>>> two, half = ((2, 1),), ((1, 2),)
>>> bar, loose = ((ss, (), unit), ((), ss, two), (unit, two, ())), ((ss, (), ()), ((), ss, ()), ((), (), unit))
>>> turn, sway = ((s, (less,)), (unit, s)), ((0, 0), (0, 1))
>>> [free_starts(bar), is_sound(bar), is_free(spring, ((0, 0), (0, 2))), tie_on(spring, ((0, 0), (0, 2))), is_state_lot(turn, sway), settles(bar, ((0, 0), (0, 1), (2, 0))), lot_rank(bar, ((0, 0), (1, 0), (2, 0)))]
[2, True, False, (((1, 1), (0, 1), (1, 1)),), True, True, 1]
>>> [is_lot(loop, sway), is_lot(loop, ((0, 1), (0, 0))), is_state_lot(twins, ((1, 0),)), is_state_lot(twins, ((0, 0),)), is_state_lot(rod, ()), ties_on(bar, ((0, 0), (1, 0), (2, 0)))]
[True, False, False, True, True, ((((1, 2),), ((1, 1),), ()), ((), (), ((1, 1),)))]
>>> [first_state_lot(turn, ((1, 3), (0, 0), (0, 1))), first_state_lot(bar, ((2, 0), (1, 0), (0, 0))), may_leave(turn, ((0, 0), (1, 0)), (0, 1)), growth_table(turn, sway), growth_table(rod, ())]
[((0, 1), (1, 3)), None, ((1, 0),), (((0, 1), (1, 1)), ((-1, 1), (0, 1))), ()]
>>> [expressed(bar, sway, 1, 0), expressed(bar, sway, 2, 0), expressed(rod, (), 2, 0)]
[(((-1, 2), (0, 1)), ((), (), ((1, 2),))), (((0, 1), (0, 1)), (((1, 5),), ((2, 5),), ((0, 1), (0, 1), (-1, 5)))), ((), (((1, 1),), (), ((0, 1), (0, 1), (-1, 1))))]
>>> [plain_model(bar) == ((ss, (), ()), (half, unit, ()), ((), (), unit)), plain_lot(bar), is_plain(bar), is_plain(turn), is_plain(loop), plain_model(twins), plain_model(rod) == plain_model(plain_model(rod))]
[True, ((0, 0), (0, 1)), False, True, False, ((((0, 1), (1, 1)), ()), ((), ((1, 1),))), True]
>>> near = ((0, 0), (1, 0))
>>> [start_word(bar, near, ((2, 1), one), ()), start_word(bar, near, ((2, 1), one), ((), (), ((4, 1),))), broken_tie(bar, near, ((2, 1), one), ()), start_word(rod, (), (), ()), motion_with(turn, near, (one, (2, 1)))]
['none', 'many', (((1, 2),), ((1, 1),), ()), 'one', (((1, 1), (2, 1)), ((2, 1), (-1, 1)))]
>>> [course_with(turn, near, (one, (2, 1)), (((3, 1),), ()), 4), course_with(bar, near, ((2, 1), one), (), 4)]
[(((1, 1), (5, 1), (-1, 1), (-5, 1)), ((2, 1), (-1, 1), (-5, 1), (1, 1))), None]
>>> growth_table(bar, near)
raises NotAState()
"""

STAGES = """
>>> from hiddenties.stages import first_stage, lot_of_lefts, may_be_left, solved_unknowns, stage_equations, stage_lot, stage_places, stage_table
>>> [first_stage(bar), stage_equations(bar, 1), stage_places(bar, 1), stage_table(bar, 1), stage_table(bar, 0)]
[2, ((2, 1),), ((0, 1), (1, 1)), (((1, 1), (2, 1)),), (((1, 1), (0, 1), (1, 1)), ((0, 1), (1, 1), (2, 1)), ((1, 1), (2, 1), (0, 1)))]
>>> [solved_unknowns(bar, 1), stage_lot(bar), may_be_left(bar, 1, (0,)), may_be_left(bar, 1, ()), lot_of_lefts(bar, ((0,), (1,))), stage_lot(rod), stage_lot(loose)]
[(0,), ((1, 0), (1, 1)), True, False, ((0, 0), (1, 1)), (), ((0, 0), (0, 1), (1, 0), (1, 1))]
>>> stage_lot(twins)
raises NotSound()
"""

MODES = """
>>> from hiddenties.modes import carries_driven, carries_over, goes_on, gone_on, kept_places, lost_tie
>>> both = ((0, 0), (0, 1), (1, 0), (1, 1))
>>> [carries_over(bar, loose, both), carries_over(loose, bar, both), lost_tie(loose, bar, both), lost_tie(bar, loose, both), kept_places(loose, bar, both)]
[True, False, (((1, 2),), ((1, 1),), ()), None, ((0, 0), (0, 1))]
>>> [carries_over(bar, loose, ((2, 0),)), carries_driven(bar, loose, ((2, 0),)), carries_driven(loose, bar, sway)]
[True, False, True]
>>> flight = (((2, 1), one, nil, nil), (less, nil, nil, nil), (nil, nil, nil, nil))
>>> [goes_on(loose, flight, bar, both), goes_on(loose, flight, bar, ((0, 0), (1, 0))), goes_on(loose, flight, bar, sway), gone_on(loose, flight, bar, sway)]
['none', 'many', 'one', (((2, 1), (1, 1)), ((-1, 1), (-1, 2)), ((0, 1), (0, 1)))]
"""

PIECES = """
>>> from hiddenties.pieces import apart, is_balanced, is_floating, joined
>>> coil, ground = (2, ((unit, (), (less,), s), ((), unit, (), unit))), (1, ((unit, ()),))
>>> wire = (2, ((unit, (), (less,), ()), ((), unit, (), unit)))
>>> [is_balanced(coil), is_balanced(ground), is_floating(coil), is_floating(ground), apart((coil, ground)), is_balanced((2, ()))]
[True, True, True, False, (((0, 0),), ((0, 1),), ((1, 0),)), False]
>>> [joined((ground,), (((0, 0),),)), is_solvable(joined((wire, ground), (((0, 0), (1, 0)), ((0, 1),)))), is_solvable(joined((wire,), (((0, 0),), ((0, 1),)))), free_starts(joined((coil, ground), (((0, 0), (0, 1), (1, 0)),)))]
[((((1, 1),), ()), ((), ((1, 1),))), True, False, 1]
"""

CERTIFICATES = """
>>> from hiddenties.certificates import certify_alike, certify_solvable, certify_sound, certify_weight
>>> from hiddenties.checker import accepts
>>> from hiddenties.consoles import Console
>>> from hiddenties.workshops import Workshop
>>> shop = Workshop()
>>> console = Console(shop)
>>> [console.say("put oak: 0/1,1/1 0/1,1/1; 0/1,1/1 1/1,1/1"), shop.named("oak") == twins, console.say("determinant oak"), console.say("starts oak"), console.say("weight oak"), console.say("names")]
['done', True, '0/1,1/1', '1', '2', 'oak']
>>> shop.wish(("free", "oak", 1))
>>> console.say("put oak: 1/1 -; - 1/1")
raises Broken(index=0)
>>> [console.say("model oak"), certify_weight(((1, None), (0, None)))[0][0], certify_sound(twins)[0][0], certify_alike(twins, plain)[0][0]]
['0/1,1/1 0/1,1/1; 0/1,1/1 1/1,1/1', 'no choice', 'weak', 'alike']
>>> [accepts(("loose", loop), (unit, (nil, less))), accepts(("loose", loop), ((), ())), accepts(("weight", ((1, 1), (1, 1)), 2), ((0, 1), ((0, 0), (1, 1)))), accepts(("tie", twins, (s, ())), (unit, ()))]
[True, False, True, False]
"""


def parts_of(text):
    """The statements, each with what the document tells of it, '' for nothing."""
    found = []
    for line in text.strip().split("\n"):
        if line.startswith(">>> "):
            found.append([line[4:], ""])
        else:
            found[-1][1] = line
    return found


class DocumentTest(unittest.TestCase):
    def check_part(self, code, told, names):
        """Values are told as Python shows them; errors by their class, behind the word raises."""
        if told == "":
            exec(code, names)
        elif told.startswith("raises "):
            with self.assertRaises(ValueError) as caught:
                eval(code, names)
            kept = ", ".join(f"{name}={value!r}" for name, value in vars(caught.exception).items())
            self.assertEqual(f"{caught.exception.__class__.__name__}({kept})", told[len("raises "):])
        else:
            self.assertEqual(repr(eval(code, names)), told)

    def test_examples(self):
        names, told_parts = {}, 0
        for text in (MODELS, PATTERNS, MENDED, MOTIONS, STATES, STAGES, MODES, PIECES, CERTIFICATES):
            for code, told in parts_of(text):
                with self.subTest(code=code):
                    self.check_part(code, told, names)
                told_parts += told != ""
        self.assertEqual(told_parts, 40)


if __name__ == "__main__":
    unittest.main()
