"""Point 37, and the interface of hiddenties/checker.py."""

import unittest
from random import Random

from hiddenties import checker as module
from hiddenties.checker import accepts
from hiddenties.mended import mending_table
from hiddenties.models import loose_row
from hiddenties.motions import all_motions
from hiddenties.sures import sound_model, weak_model
from tests import asked, judge, makers, oracles, wrongs
from tests.helps import Case
from tests.makers import ALIKE, BAR, CHAIN, LESS, LOOP, NIL, NOUGHT, ONE, ROD, S, SHORT, SLACK, SPRING, SWING
from tests.makers import TURN, TWINS, UNIT

CERTIFICATES = [call(*given) for call, given in asked.QUESTIONS]
# Claims for which () alone is accepted.
BARE = ("sure", "solvable", "sound", "states", "carries")
WEIGHT = (((1, 1), (1, 1)), 2)


def some_of(source, values, count):
    return values if len(values) <= count else source.sample(values, count)


class AcceptsTest(Case):
    def check(self, claim, paper):
        """The checker says True or False, just as plain search does."""
        wanted = judge.accepts(claim, paper)
        self.assertIs(accepts(claim, paper), wanted, (claim, paper))
        return wanted

    def test_papers_of_others(self):
        """Each claim and those it excludes, with papers of claims about as many unknowns."""
        source, found = Random(321), {}
        by_size = {}
        for claim, paper in CERTIFICATES:
            by_size.setdefault(len(claim[1]), []).append(paper)
        for claim, paper in CERTIFICATES:
            papers = [paper, ()] + some_of(source, by_size[len(claim[1])], 4)
            for other in [claim] + asked.contraries(claim):
                for told in papers:
                    found[other[0], self.check(other, told)] = True
        self.assertEqual(len(found), 2 * len(asked.CONTRARY))

    def test_spoiled_papers(self):
        """One change at a time; some of them still show the claim."""
        source, found = Random(322), {}
        for claim, paper in CERTIFICATES:
            for other in some_of(source, wrongs.spoiled(paper), 12):
                found[claim[0], self.check(claim, other)] = True
        for word in asked.CONTRARY:
            self.assertIn((word, False), found)
        self.assertIn(("not sure", True), found)
        self.assertIn(("unlike", True), found)

    def test_spoiled_claims(self):
        source, found = Random(323), {}
        for claim, paper in CERTIFICATES:
            for other in some_of(source, wrongs.spoiled(claim), 12):
                found[claim[0], self.check(other, paper)] = True
        for word in asked.CONTRARY:
            self.assertIn((word, False), found)

    def test_claims_without_paper(self):
        """() alone is accepted, exactly if the claim is so."""
        seen = {}
        for claim, _ in CERTIFICATES:
            for word in (claim[0], asked.CONTRARY[claim[0]]):
                other = (word,) + claim[1:2 if claim[0] == "weight" else len(claim)]
                if word not in BARE:
                    continue
                so = judge.is_so(other)
                self.assertIs(accepts(other, ()), so, other)
                for paper in ([], (0,), ((),), (other,), None, False, 0, "", b"", {}, ((), ())):
                    self.assertIs(accepts(other, paper), False)
                seen[word, so] = True
        self.assertEqual(len(seen), 2 * len(BARE))

    def check_papers(self, claim, right, wrong=()):
        """Several papers show one claim, others do not."""
        for papers, wanted in ((right, True), (wrong, False)):
            for paper in papers:
                self.assertIs(judge.accepts(claim, paper), wanted, (claim, paper))
                self.assertIs(accepts(claim, paper), wanted, (claim, paper))

    def test_several_papers_show_one_claim(self):
        """Offsets that are not the least ones, any choice, multiples of rows and of motions."""
        self.check_papers(("weight",) + WEIGHT, (
            ((0, 1), ((0, 0), (1, 1))), ((1, 0), ((0, 0), (1, 1))), ((1, 0), ((4, 4), (5, 5))),
        ))
        self.check_papers(("loose", LOOP), (
            (UNIT, (NIL, LESS)), (((5, 3),), (NIL, (-5, 3))), (S, (NIL, NIL, LESS)),
        ))
        motions = (((ONE,), (NIL,)), (((-2, 3),), (NIL,)))
        self.check_papers(("no tie", TWINS, (UNIT, ())), motions)
        self.check_papers(("no states", TWINS, ((0, 1), (1, 0))), motions + (((), UNIT), (S, UNIT)))
        self.check_papers(("no states", TWINS, ((0, 0), (1, 0))), (((), UNIT), ((), ((7, 2),))), motions)
        first, second = all_motions(SLACK)
        self.check_papers(("unlike", TWINS, SLACK), ((1, second),), ((0, second), (1, first), second))
        self.check_papers(("unlike", SLACK, TWINS), ((0, second),), ((1, second), (0, first), (0, second, ())))

    def test_ties_within_lots(self):
        lot, beyond = ((0, 0), (1, 0), (1, 1)), (S, UNIT)
        ties = (((), UNIT), ((), (ONE, ONE)), ((), S))
        self.check_papers(("no states", TWINS, lot), ties, (beyond, (UNIT, ()), ((), ())))
        # The last one is a tie of both, so nothing is lost by it.
        self.check_papers(("loses", SLACK, TWINS, lot), ties[:2], (ties[2], beyond, (UNIT, ()), ((), ())))

    def test_papers_that_show_too_little(self):
        """Noughts, what lies beyond the lot, tables without a number as determinant, a model of another pattern."""
        for claim, paper in (
            (("loose", LOOP), ((), ())), (("loose", NOUGHT), ((), ())), (("no states", TWINS, ((1, 0),)), ((), ())),
            (("no states", TWINS, ()), ((NIL,), (NIL,))), (("no states", TWINS, ((0, 0),)), ((), UNIT)),
            (("no tie", TWINS, (UNIT, ())), ((NIL,), (NIL,))), (("no choice", SHORT), (0, 1)),
            (("no choice", SHORT), ()),
            (("no choice", SHORT), (2, 1, 0)), (("weak", TWINS), makers.unit_table(2)), (("weak", TWINS), NOUGHT),
            (("weak", BAR), makers.unit_table(3)), (("weak", LOOP), makers.unit_table(2)),
            (("weak", TWINS), ((S, ()), ((), S))), (("alike", TWINS, SLACK), ((UNIT, ()), ((), UNIT))),
            (("loses", TWINS, TWINS, ((1, 0),)), ((), UNIT)), (("loses", SLACK, TWINS, ((0, 0),)), ((), UNIT)),
            (("loses", SLACK, TWINS, ((1, 0),)), ((), ())), (("not sure", SWING), BAR), (("not sure", CHAIN), ALIKE),
            (("weight",) + WEIGHT, ((0, 1), ((0, 0), (1, 2)))), (("weight", WEIGHT[0], 1), ((0, 1), ((0, 0), (1, 1)))),
            (("unlike", SLACK, SLACK), (0, all_motions(SLACK)[0])),
            (("unlike", TWINS, SLACK), (0, all_motions(TWINS)[0])),
            (("tie", SPRING, (UNIT,)), (UNIT,)), (("tie", LOOP, LOOP[0]), (UNIT, ())),
        ):
            self.assertIs(judge.accepts(claim, paper), False, (claim, paper))
            self.assertIs(accepts(claim, paper), False, (claim, paper))

    def test_factors_of_models_that_are_not_alike(self):
        """A factor whose determinant is no number shows nothing, though it makes the second model."""
        table = oracles.factor(TWINS, SLACK)
        self.assertEqual(oracles.table_product(table, TWINS), SLACK)
        self.assertIs(accepts(("alike", TWINS, SLACK), table), False)

    def test_weak_and_sound_models_of_patterns(self):
        for pattern in asked.PATTERNS:
            weak, sound = weak_model(pattern), sound_model(pattern)
            self.assertIs(accepts(("not sure", pattern), sound), False)
            self.assertIs(accepts(("not sure", pattern), weak), weak is not None)

    def test_tables_that_mend(self):
        for model in makers.weak_models(324, 8):
            table = mending_table(model)
            self.assertIs(self.check(("weak", model), table), True)
            better = ("weak", oracles.table_product(table, model))
            self.assertIs(self.check(better, makers.unit_table(len(model))), False)

    def test_loose_rows_stand_on_the_left(self):
        """Loose unknowns are no loose row."""
        turned = oracles.turned(LOOP)
        self.assertIs(accepts(("loose", turned), loose_row(turned)), True)
        self.assertIs(accepts(("loose", LOOP), loose_row(turned)), False)


class ArgumentsTest(Case):
    def test_names(self):
        self.check_right(accepts, {"claim": ("sure", SWING), "paper": ()}, module)
        self.assertIs(accepts(paper=(UNIT, (NIL, LESS)), claim=("loose", LOOP)), True)

    def test_other_values(self):
        for wrong in wrongs.anything() + [(), ((),), ("",), ("sure",), ("tie", ()), "sure"]:
            self.assertIs(accepts(wrong, ()), False)
            self.assertIs(accepts(wrong, wrong), False)
            for word in asked.CONTRARY:
                for claim in [(word,) + (wrong,) * many for many in (1, 2, 3)] + [[word, wrong], (wrong, word)]:
                    self.assertIs(accepts(claim, ()), False)
                    self.assertIs(accepts(claim, wrong), False)

    def test_wrong_papers(self):
        for claim, paper in CERTIFICATES[::5]:
            for wrong in wrongs.anything():
                self.assertIs(accepts(claim, wrong), False, (claim, wrong))
            before = repr((claim, paper))
            self.assertIs(accepts(claim, paper), True)
            self.assertEqual(repr((claim, paper)), before)

    def test_wrong_parts(self):
        """Each part of each claim in turn is what it must not be, while the paper stays."""
        source, words = Random(325), {}
        for claim, paper in CERTIFICATES:
            words.setdefault(claim[0], []).append((claim, paper))
        for word, told in words.items():
            for claim, paper in source.sample(told, 3):
                for wrong in self.no_parts(claim, 1):
                    self.assertIs(accepts((word, wrong) + claim[2:], paper), False, (word, wrong))
                for at in range(2, len(claim)):
                    for wrong in self.no_parts(claim, at):
                        other = claim[:at] + (wrong,) + claim[at + 1:]
                        self.assertIs(accepts(other, paper), False, other)
                self.assertIs(accepts(list(claim), paper), False)
                self.assertIs(accepts(claim + ((),), paper), False)
                self.assertIs(accepts(claim[:-1], paper), False)
                self.assertIs(accepts((claim,), paper), False)
                self.assertIs(accepts(claim, [paper]), False)

    def no_parts(self, claim, at):
        word, many = claim[0], len(claim[1])
        if at == 1 and word in ("weight", "no choice", "sure", "not sure"):
            return wrongs.no_patterns()
        if word == "weight":
            return wrongs.no_numbers() + [str(claim[2]), (claim[2],)]
        if at == 1 or at == 2 and word in ("alike", "unlike", "carries", "loses"):
            return wrongs.no_models()
        if word in ("tie", "no tie"):
            return wrongs.no_rows(many)
        return [wrong for wrong, _ in wrongs.no_lots(many)]

    def test_models_that_are_not_solvable_or_of_unlike_sizes(self):
        for loose in (LOOP, ALIKE, NOUGHT):
            for claim in (
                ("weak", loose), ("sound", loose), ("tie", loose, loose[0]), ("no tie", loose, loose[0]),
                ("states", loose, ()), ("no states", loose, ()), ("alike", loose, loose), ("unlike", loose, TWINS),
                ("unlike", TWINS, loose), ("carries", loose, TWINS, ()), ("carries", TWINS, loose, ()),
                ("loses", loose, TWINS, ()),
            ):
                for paper in ((), (UNIT, ()), ((), ()), makers.unit_table(2), ((ONE,), (NIL,)), (0, ((ONE,), (NIL,)))):
                    self.assertIs(accepts(claim, paper), False, (claim, paper))
        for model, other in ((SPRING, TURN), (TURN, SPRING), (BAR, TURN), (TURN, ROD)):
            for claim in (
                ("carries", model, other, ()), ("loses", model, other, ()), ("alike", model, other),
                ("unlike", model, other),
            ):
                tables = (makers.unit_table(len(model)), makers.unit_table(len(other)))
                for paper in ((), (0, all_motions(model)[0])) + tables:
                    self.assertIs(accepts(claim, paper), False, (claim, paper))

    def test_flags_in_place_of_numbers(self):
        for claim, paper in (
            (("weight", ((True, 1), (1, 1)), 2), ((0, 1), ((0, 0), (1, 1)))),
            (("weight", ((0,),), False), ((0,), ((0,), (0,)))), (("weight", ((1,),), 1), ((False,), ((0,), (1,)))),
            (("weight", ((1,),), 1), ((0,), ((False,), (1,)))), (("weight", ((1,),), 1), ((0,), ((0,), (True,)))),
            (("no choice", ((None,),)), (False,)), (("unlike", TWINS, SLACK), (True, all_motions(SLACK)[1])),
            (("loose", LOOP), (((True, 1),), (NIL, LESS))), (("states", TURN, ((False, 0), (0, 1))), ()),
            (("no tie", TWINS, (UNIT, ())), (((True, 1),), (NIL,))), (("sure", ((True,),)), ()),
        ):
            self.assertIs(accepts(claim, paper), False, (claim, paper))

    def test_words(self):
        for word in ("", "Sure", "sure ", " sure", "not  sure", "notsure", "surely", "no_choice", "alike ", "mended"):
            self.assertIs(accepts((word, ((0,),)), ()), False)
        self.assertIs(accepts(("sure", ((0,),)), ()), True)


if __name__ == "__main__":
    unittest.main()
