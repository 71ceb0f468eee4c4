"""The interface of hiddenties/consoles.py: lines and answers."""

import re
import unittest
from math import gcd
from random import Random

from hiddenties import consoles as module
from hiddenties.consoles import Console
from hiddenties.errors import Broken, InUse, InvalidPhrase, NotAWorkshop, NothingToUndo, UnknownName
from hiddenties.workshops import Workshop
from tests import makers, oracles, wrongs
from tests.helps import Case, raised_by
from tests.makers import ALIKE, BAR, LOOP, NIL, NOUGHT, ONE, ROD, SLACK, SPRING, TURN, TWINS

MODELS = makers.some_models(361, 40, (1, 2, 3), 3) + makers.loose_models(362, 8) + [
    SPRING, ROD, TWINS, LOOP, BAR, TURN, SLACK, ALIKE, NOUGHT, (((),),), ((((-7, 3),),),),
]
TWINS_TEXT = "0/1,1/1 0/1,1/1; 0/1,1/1 1/1,1/1"
FRACTION = "(0|-?[1-9][0-9]*)/([1-9][0-9]*)"
POLYNOMIAL = f"(-|{FRACTION}(,{FRACTION})*)"


def polynomial_text(polynomial):
    return ",".join(f"{above}/{below}" for above, below in polynomial) or "-"


def text_of(model):
    return "; ".join(" ".join(polynomial_text(item) for item in row) for row in model)


def model_by_words(text):
    """The model of a text, read by the forms of fractions, polynomials, rows; None."""
    rows = [row.split(" ") for row in text.split("; ")]
    if any(len(row) != len(rows) for row in rows):
        return None
    model = []
    for row in rows:
        told = []
        for item in row:
            if not re.fullmatch(POLYNOMIAL, item):
                return None
            pairs = [tuple(map(int, part.split("/"))) for part in item.split(",")] if item != "-" else []
            if any(gcd(*pair) != 1 for pair in pairs) or pairs and pairs[-1][0] == 0:
                return None
            told.append(tuple(pairs))
        model.append(tuple(told))
    return tuple(model)


def is_line(text):
    """Whether a text has the form of a line."""
    if re.fullmatch("undo|names|(drop|model|determinant|starts|weight) [a-z]{1,12}", text):
        return True
    told = re.fullmatch("put ([a-z]{1,12}): (.*)", text, re.DOTALL)
    return told is not None and model_by_words(told[2]) is not None


def altered(source, line):
    """The line with one or two signs left out, added, exchanged or put in the place of others."""
    for _ in range(source.randint(1, 2)):
        at = source.randint(0, len(line))
        sign = source.choice("0123456789//,,;;::--  azA_+." + line)
        line = source.choice((
            line[:at] + sign + line[at:], line[:at] + line[at + 1:], line[:at] + sign + line[at + 1:],
            line[:at] + line[at + 1:at + 2] + line[at:at + 1] + line[at + 2:],
        ))
    return line


class ConsoleCase(Case):
    def setUp(self):
        self.shop = Workshop()
        self.console = Console(self.shop)
        self.say = self.console.say

    def state(self, shop=None):
        shop = shop or self.shop
        return shop.names, shop.wishes, len(shop), [shop.named(name) for name in shop.names]

    def check_refused(self, kind, kept, line, name="given"):
        """The line raises this error, and nothing changes."""
        before = self.state()
        error = raised_by(self.say, line)
        self.assertIs(type(error), kind, line)
        if kind is NothingToUndo:
            self.assertEqual(vars(error), {})
        else:
            self.assertEqual(list(vars(error)), [name])
            value = getattr(error, name)
            self.assertTrue(value is kept or type(value) is type(kept) and value == kept, (value, kept))
        self.assertEqual(self.state(), before)

    def check_phrase(self, line):
        """The line has none of the forms."""
        self.check_refused(InvalidPhrase, line, line)


class LinesTest(ConsoleCase):
    def test_models(self):
        """What is put is the model; its text leads back to it."""
        for many, model in enumerate(MODELS):
            text = text_of(model)
            self.assertEqual(self.say("put a: " + text), "done")
            self.assertEqual(self.shop.named("a"), model)
            self.assertEqual(repr(self.shop.named("a")), repr(model))
            self.assertEqual(self.say("model a"), text)
            self.assertEqual(len(self.shop), many + 1)

    def test_answers_about_models(self):
        seen = {}
        for model in MODELS:
            self.shop.put("a", model)
            told = oracles.determinant(model)
            self.assertEqual(self.say("determinant a"), polynomial_text(told))
            starts = str(len(told) - 1) if told else "loose"
            self.assertEqual(self.say("starts a"), starts)
            weight = oracles.heaviest(oracles.orders(model))[0]
            self.assertEqual(self.say("weight a"), "none" if weight is None else str(weight))
            seen[starts == "loose", weight is None] = True
            seen[starts] = True
        self.assertTrue({(False, False), (True, False), (True, True), "0", "1", "loose"} <= set(seen))

    def answers(self, name):
        return [self.say(f"{word} {name}") for word in ("determinant", "starts", "weight")]

    def test_by_hand(self):
        self.assertEqual(self.say("put oak: " + TWINS_TEXT), "done")
        self.assertEqual(self.shop.named("oak"), TWINS)
        self.assertEqual(self.say("put elm: -"), "done")
        self.assertEqual(self.shop.named("elm"), (((),),))
        self.assertEqual(self.say("put abcdefghijkl: -3/2,0/1,1/7"), "done")
        self.assertEqual(self.shop.named("abcdefghijkl"), (((((-3, 2), NIL, (1, 7))),),))
        self.assertEqual(self.answers("oak"), ["0/1,1/1", "1", "2"])
        self.assertEqual(self.answers("elm"), ["-", "loose", "none"])
        self.assertEqual(self.say("determinant abcdefghijkl"), "-3/2,0/1,1/7")
        self.assertEqual(self.say("put loop: 0/1,1/1 0/1,0/1,1/1; 1/1 0/1,1/1"), "done")
        self.assertEqual(self.answers("loop"), ["-", "loose", "2"])
        self.assertEqual(self.say("model oak"), TWINS_TEXT)
        self.assertEqual(self.say("model elm"), "-")
        self.assertEqual(self.say("put rod: 0/1,0/1,1/1 - 1/1; 0/1,-1/1 1/1 -; 1/1 - -"), "done")
        self.assertEqual(self.shop.named("rod"), ROD)
        self.assertEqual(self.say("names"), "abcdefghijkl elm loop oak rod")

    def test_names_dropping_undoing(self):
        self.assertEqual(self.say("names"), "none")
        for name in ("b", "none", "a", "undo"):
            self.assertEqual(self.say(f"put {name}: 1/1"), "done")
        self.assertEqual(self.say("names"), "a b none undo")
        self.assertEqual(self.say("drop b"), "done")
        self.assertEqual(self.say("names"), "a none undo")
        self.assertEqual(self.say("undo"), "done")
        self.assertEqual(self.say("names"), "a b none undo")
        self.assertEqual(len(self.shop), 4)
        for left in ("a b none", "b none", "b", "none"):
            self.assertEqual(self.say("undo"), "done")
            self.assertEqual(self.say("names"), left)
        self.check_refused(NothingToUndo, None, "undo")

    def test_questions_change_nothing(self):
        self.say("put a: " + TWINS_TEXT)
        self.shop.wish(("free", "a", 1))
        before = self.state()
        for line in ("names", "model a", "determinant a", "starts a", "weight a"):
            self.assertEqual(self.say(line), self.say(line=line))
            self.assertEqual(self.state(), before)

    def test_great_numbers(self):
        """Numbers of several hundred figures stand in lines and answers as `str` writes them."""
        great, other = 10 ** 399 + 1, 3 ** 700
        model = ((((great, other), (-other, great)), ((great, 1),)), (((1, great),), ((other, 2),)))
        text = text_of(model)
        self.assertGreater(len(text), 2000)
        self.assertEqual(self.say("put a: " + text), "done")
        self.assertEqual(self.shop.named("a"), model)
        self.assertEqual(self.say("model a"), text)
        self.assertEqual(self.say("determinant a"), polynomial_text(oracles.determinant(model)))
        self.check_phrase("put a: " + "0" + text)

    def test_long_lines(self):
        """A line of nearly 4000 signs."""
        item = ",".join(["11/10"] * 13)
        text = "; ".join([" ".join([item] * 7)] * 7)
        self.assertTrue(3800 < len(text) < 4000)
        self.assertEqual(self.say("put a: " + text), "done")
        self.assertEqual(self.say("model a"), text)
        self.assertEqual(self.say("starts a"), "loose")
        self.assertEqual(self.say("weight a"), "84")


class ErrorsTest(ConsoleCase):
    def test_errors_of_the_workshop(self):
        self.say("put a: " + TWINS_TEXT)
        self.say("put b: 1/1")
        for wish in (("solvable", "b"), ("free", "a", 1)):
            self.shop.wish(wish)
        for word in ("drop", "model", "determinant", "starts", "weight"):
            for name in ("c", "aa", "abcdefghijkl"):
                self.check_refused(UnknownName, name, f"{word} {name}")
        self.check_refused(InUse, 1, "drop a", "index")
        self.check_refused(InUse, 0, "drop b", "index")
        self.check_refused(Broken, 1, "put a: 1/1 -; - 1/1", "index")
        self.check_refused(Broken, 0, "put b: -", "index")
        self.assertEqual(self.say("put a: 0/1,1/1"), "done")

    def test_the_form_is_looked_at_first(self):
        self.check_phrase("put c: 2/2")
        self.check_phrase("drop C")
        self.check_phrase("undo it")
        self.say("put a: " + TWINS_TEXT)
        self.shop.wish(("free", "a", 1))
        self.check_phrase("put a: 1/1 -; - 1/1;")
        self.check_phrase("drop a ")

    def test_other_values(self):
        for wrong in wrongs.anything() + [b"names", ["names"], ("names",), ("put", "a", TWINS), 0, TWINS, {"names": 1}]:
            self.check_phrase(wrong)

    def test_lines_that_are_nearly_right(self):
        self.say("put a: " + TWINS_TEXT)
        for line in (
            "", " ", "put", "put ", "put a", "put a:", "put a: ", "put a:-", "put a : -", "put  a: -", " put a: -",
            "put a: - ",
            "put a:  -", "Put a: -", "PUT a: -", "put : -", "put a b: -", "put ab1: -", "put abcdefghijklm: -",
            "put a: -;",
            "put a; -", "put a - ", "put a: a: -", "put a: b", "drop", "drop ", "drop  a", "drop a ", " drop a",
            "drop a b",
            "drop a:", "Drop a", "drop A", "drop abcdefghijklm", "drop a1", "undo ", " undo", "Undo", "undo a",
            "undo: ",
            "names ", " names", "names a", "name", "model", "model ", "model  a", "model a ", "model A", "model a b",
            "determinant", "determinant  a", "determinants a", "starts", "starts ", "start a", "weight", "weights a",
            "a", "wish a", "lift 0", "len", "done", "none", "loose", "named a", "solvable a", "undo\n", "names\n",
            "drop a\n",
            "put a: -\n", "model\ta", "modela", "put a: -; - -", "put a: - -", "put a: -; -", "put a: - -; -",
            "put a: - -; - - -",
        ):
            self.assertIs(is_line(line), False, line)
            self.check_phrase(line)

    def test_texts_that_tell_no_model_or_tell_one_otherwise(self):
        for text in (
            "1", "1/", "/1", "1/0", "0/0", "0/1", "0/2", "2/2", "2/4", "-0/1", "1/-1", "+1/1", "01/1", "1/01", "1/1,",
            ",1/1",
            "1/1,,1/1", "1/1, 1/1", "1/1 ,1/1", "1/1,0/1", "0/1,0/1", "-1/-1", "--1/1", "- 1/1", "-,1/1", "1/1,-",
            "1/1/1",
            "1.0/1", "1e0/1", "0x1/1", "1_0/1", "1_0/3", "a/1", "1/a", "1\\1", "(1, 1)", "(((1, 1),),)", "1/1;",
            "1/1; ", ";",
            "; ", "1/1 ", " 1/1", "1/1  1/1; 1/1 1/1", "1/1 1/1;1/1 1/1", "1/1 1/1;  1/1 1/1", "1/1 1/1 ; 1/1 1/1",
            "1/1 1/1", "1/1; 1/1", "1/1 1/1; 1/1", "1/1 1/1; 1/1 1/1; 1/1 1/1", "- -; - 0/1", "- -; - -1/0",
            "- -;; - -",
            "00/1", "-00/1,1/1", "0/1,1/1,0/1", "1/1\n", "\n1/1", "1/1\t", "none", "loose", "()", "((),)", "--", "1/1-",
            "0" * 300 + "/1", "1/" + "0" * 300, "1" * 300 + "/" + "1" * 300,
        ):
            self.assertIsNone(model_by_words(text), text)
            self.check_phrase("put a: " + text)

    def test_altered_lines(self):
        """Lines with some signs changed are refused, or do what their form says."""
        source, found = Random(363), {}
        for model in MODELS[:12] * 3 + [SPRING] * 60:
            line = "put oak: " + text_of(model)
            for _ in range(12):
                self.check_line(altered(source, line), found)
        lines = [f"{word} oak" for word in ("drop", "model", "determinant", "starts", "weight")]
        for line in lines + ["names", "undo", "put a: -"]:
            for _ in range(60):
                self.check_line(altered(source, line), found)
        self.assertEqual(set(found), {True, False})

    def check_line(self, line, found):
        wanted = is_line(line)
        error = raised_by(self.say, line)
        self.assertIs(type(error) is not InvalidPhrase, wanted, line)
        found[wanted] = True
        if not wanted:
            self.assertEqual(error.given, line)
        elif line.startswith("put "):
            name, text = line[4:].split(": ")
            self.assertEqual(self.shop.named(name), model_by_words(text))
            self.assertEqual(self.say(f"model {name}"), text)


class ConsolesTest(ConsoleCase):
    def test_not_a_workshop(self):
        for wrong in wrongs.anything() + [Workshop, self.console, "shop", TWINS, {"shop": self.shop}, (self.shop,)]:
            self.check_error(NotAWorkshop, Console, wrong, keeps=(("given", wrong),))
            self.check_error(NotAWorkshop, Console, shop=wrong, keeps=(("given", wrong),))

    def test_two_consoles_on_one_workshop(self):
        other = Console(shop=self.shop)
        self.say("put a: " + TWINS_TEXT)
        self.assertEqual(other.say("names"), "a")
        other.say("put b: 1/1")
        self.assertEqual(self.say("names"), "a b")
        self.assertEqual(self.say("undo"), "done")
        self.assertEqual(other.say("names"), "a")
        self.assertEqual(other.say("undo"), "done")
        self.check_refused(NothingToUndo, None, "undo")
        self.shop.put("c", SPRING)
        self.assertEqual((self.say("model c"), other.say("model c")), ("1/1,0/1,1/1",) * 2)

    def test_two_workshops(self):
        shop = Workshop()
        other = Console(shop)
        self.say("put a: " + TWINS_TEXT)
        self.assertEqual(other.say("names"), "none")
        other.say("put b: 1/1")
        self.assertEqual((self.say("names"), other.say("names")), ("a", "b"))
        self.assertIs(type(raised_by(other.say, "model a")), UnknownName)
        other.say("undo")
        self.assertEqual((self.say("names"), other.say("names")), ("a", "none"))

    def test_within_trials(self):
        self.say("put a: " + TWINS_TEXT)
        before = self.state()
        with self.assertRaises(InvalidPhrase):
            with self.shop.trial():
                self.say("put b: 1/1")
                self.say("drop a")
                self.say("nothing")
        self.assertEqual(self.state(), before)
        self.assertEqual(self.shop.tried(lambda shop: Console(shop).say("put c: -")), "done")
        self.assertEqual(self.say("names"), "a c")

    def test_objects(self):
        self.assertTrue(self.console)
        self.assertTrue(self.console == self.console)
        for value in [Console(self.shop), self.shop] + wrongs.untouchy():
            self.assertIs(self.console == value, False)
            self.assertIs(self.console != value, True)

    def test_interface(self):
        self.check_names(Console, "shop")
        self.check_names(self.say, "line")
        self.assertIn("say", vars(Console))
        self.assertEqual(Console.__module__, module.__name__)
        self.assertEqual(self.say(line="put a: -1/2,1/1"), "done")
        self.assertEqual(self.shop.named("a"), ((((-1, 2), ONE),),))


if __name__ == "__main__":
    unittest.main()
