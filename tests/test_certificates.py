"""Point 37 as far as it tells of papers that are made, and the interface of hiddenties/certificates.py."""

import unittest

from hiddenties import certificates as module
from hiddenties.certificates import certify_alike, certify_change, certify_solvable, certify_sound, certify_states
from hiddenties.certificates import certify_sure, certify_tie, certify_weight
from hiddenties.checker import accepts
from hiddenties.errors import InvalidLot, InvalidModel, InvalidPattern, InvalidRow, NotSolvable, UnlikeSizes
from tests import asked, judge, makers, wrongs
from tests.helps import Case
from tests.makers import BAR, CHAIN, NIL, ONE, ROD, SHORT, SLACK, SPRING, SWING, TURN, TWINS, UNIT

RIGHT = (
    (certify_weight, {"pattern": SWING}), (certify_sure, {"pattern": SWING}), (certify_solvable, {"model": TWINS}),
    (certify_sound, {"model": TWINS}), (certify_tie, {"model": TWINS, "row": (UNIT, ())}),
    (certify_states, {"model": TWINS, "lot": ((0, 0),)}), (certify_alike, {"model": TWINS, "other": SLACK}),
    (certify_change, {"model": TWINS, "other": SLACK, "lot": ((0, 0),)}),
)
# Those that ask for models which are solvable.
STRICT = tuple((call, right) for call, right in RIGHT if "model" in right and call is not certify_solvable)
LOOSE_MODELS = asked.MODELS[len(asked.SOLVABLE):]


class CertificatesTest(Case):
    def test_words_and_papers(self):
        """The claim is so, about what was asked; its paper is accepted, by the checker and by plain search."""
        seen = {}
        for call, given in asked.QUESTIONS:
            claim, paper = call(*given)
            about = (call.__name__, given)
            self.check_equal(paper, paper, about)
            self.assertEqual(claim[1:1 + len(given)], given, about)
            self.assertEqual(len(claim) - 1 - len(given), int(claim[0] == "weight"), about)
            self.assertIs(judge.has_form(claim), True, about)
            self.assertIs(judge.is_so(claim), True, about)
            self.assertIs(judge.accepts(claim, paper), True, about)
            self.assertIs(accepts(claim, paper), True, about)
            self.assertEqual(call(*given), (claim, paper), about)
            seen[claim[0]] = seen.get(claim[0], 0) + 1
        self.assertEqual(set(seen), set(asked.CONTRARY))
        self.assertGreater(min(seen.values()), 10, seen)

    def test_papers_show_nothing_that_is_excluded(self):
        for call, given in asked.QUESTIONS:
            claim, paper = call(*given)
            for other in asked.contraries(claim):
                self.assertIs(judge.is_so(other), False)
                self.assertIs(accepts(other, paper), False, (other, paper))
                self.assertIs(accepts(other, ()), False, other)

    def check_certificate(self, told, claim, paper):
        self.assertEqual(told[0], claim)
        self.check_equal(told[1], paper)
        self.assertIs(type(told), tuple)

    def test_by_hand(self):
        check, row = self.check_certificate, ((NIL, ONE), ())
        check(certify_weight(SWING), ("weight", SWING, 2), ((0, 2, 1), ((0, 0, 2), (2, 2, 0))))
        check(certify_weight(SHORT), ("no choice", SHORT), (0, 1, 2))
        check(certify_sure(CHAIN), ("sure", CHAIN), ())
        check(certify_solvable(ROD), ("solvable", ROD), ())
        check(certify_sound(BAR), ("sound", BAR), ())
        check(certify_tie(TWINS, row), ("tie", TWINS, row), ((ONE, ONE), (NIL, (-1, 1))))
        check(certify_tie(TURN, ((), ())), ("tie", TURN, ((), ())), ((), ()))
        check(certify_states(TURN, ((0, 0), (0, 1))), ("states", TURN, ((0, 0), (0, 1))), ())
        check(certify_states(ROD, ()), ("states", ROD, ()), ())
        check(certify_states(TWINS, ((1, 0),)), ("no states", TWINS, ((1, 0),)), ((), UNIT))
        check(certify_alike(ROD, ROD), ("alike", ROD, ROD), makers.unit_table(3))
        check(certify_change(TWINS, SLACK, ((1, 0),)), ("carries", TWINS, SLACK, ((1, 0),)), ())
        check(certify_change(SLACK, TWINS, ((1, 0),)), ("loses", SLACK, TWINS, ((1, 0),)), ((), UNIT))
        self.assertEqual(certify_states(TWINS, ())[0], ("no states", TWINS, ()))
        self.assertEqual(certify_alike(TWINS, SLACK)[0], ("unlike", TWINS, SLACK))
        self.assertEqual(certify_alike(TWINS, SLACK)[1][0], 1)

    def test_lots_that_are_no_state_lots(self):
        """Dependent places are shown by a tie on the lot, too few by a motion with noughts there."""
        for model, lot in makers.NO_STATE_LOTS:
            claim, paper = certify_states(model, lot)
            self.assertEqual(claim, ("no states", model, lot))
            self.assertIs(judge.accepts(claim, paper), True)

    def test_eight_unknowns(self):
        source = makers.Random(307)
        model = makers.wide_model(source, 2)
        other = makers.with_row(model, 0, tuple((NIL,) + item if item else () for item in model[0]))
        lot = tuple((unknown, 0) for unknown in range(8))
        row = model[3]
        pattern = tuple(tuple(len(item) - 1 if item else None for item in row) for row in model)
        for call, given in (
            (certify_weight, (pattern,)), (certify_sure, (pattern,)), (certify_solvable, (model,)),
            (certify_sound, (model,)), (certify_tie, (model, row)), (certify_tie, (model, row[::-1])),
            (certify_states, (model, lot)), (certify_states, (model, lot[1:])), (certify_alike, (model, other)),
            (certify_change, (model, other, lot)), (certify_change, (other, model, lot + ((7, 1),))),
        ):
            claim, paper = call(*given)
            self.assertIs(accepts(claim, paper), True, call.__name__)
            for contrary in asked.contraries(claim):
                self.assertIs(accepts(contrary, paper), False, call.__name__)


class ArgumentsTest(Case):
    def test_names(self):
        for call, right in RIGHT:
            self.check_right(call, right, module)

    def test_wrong_patterns(self):
        for wrong in wrongs.no_patterns():
            for call in (certify_weight, certify_sure):
                self.check_given(InvalidPattern, wrong, call, wrong)

    def test_wrong_models(self):
        for wrong in wrongs.no_models():
            for call, right in RIGHT:
                for name in ("model", "other"):
                    if name in right:
                        self.check_given(InvalidModel, wrong, call, **{**right, name: wrong})

    def test_models_that_are_not_solvable(self):
        for loose in LOOSE_MODELS:
            for call, right in STRICT:
                for name in ("model", "other"):
                    if name in right:
                        self.check_error(NotSolvable, call, **{**right, name: loose})
            self.assertEqual(certify_solvable(loose)[0], ("loose", loose))

    def test_wrong_rows(self):
        for model in (SPRING, TURN, BAR):
            for wrong in wrongs.no_rows(len(model)):
                self.check_given(InvalidRow, wrong, certify_tie, model, wrong)

    def test_wrong_lots(self):
        for model in (SPRING, TURN, BAR):
            for wrong, index in wrongs.no_lots(len(model)):
                self.check_index(InvalidLot, index, certify_states, model, wrong)
                self.check_index(InvalidLot, index, certify_change, model, model, wrong)

    def test_unlike_sizes(self):
        for model, other in ((SPRING, TURN), (TURN, SPRING), (BAR, TWINS), (TWINS, ROD)):
            self.check_error(UnlikeSizes, certify_alike, model, other)
            self.check_error(UnlikeSizes, certify_change, model, other, ())
        self.check_error(UnlikeSizes, certify_change, TURN, SPRING, ((1, 0),))
        self.check_index(InvalidLot, 0, certify_change, SPRING, TURN, ((1, 0),))

    def test_turns(self):
        wrong = {
            "model": wrongs.MODEL_TURNS, "other": wrongs.MODEL_TURNS, "lot": wrongs.LOT_TURNS,
            "row": [((), InvalidRow, ((),)), ([(), ()], InvalidRow, ([(), ()],))],
        }
        for call, right in STRICT:
            last = [({"other": SPRING}, UnlikeSizes)] if "other" in right else []
            self.check_turns(call, right, wrong, last)


if __name__ == "__main__":
    unittest.main()
