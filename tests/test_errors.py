"""Points 4 and the interface of hiddenties/errors.py."""

import inspect
import unittest

from hiddenties import errors
from tests import wrongs

WITH_GIVEN = (
    "InvalidPattern", "InvalidModel", "InvalidCourses", "InvalidChoice", "InvalidOffsets", "InvalidRow",
    "InvalidMotion", "InvalidPlace", "InvalidNumber", "InvalidIndex", "InvalidPiece", "InvalidJoints", "InvalidName",
    "InvalidWish", "InvalidPhrase", "NotAWorkshop", "UnknownName",
)
WITH_INDEX = (
    "InvalidLot", "InvalidPlaces", "InvalidNumbers", "InvalidOrders", "InvalidForcings", "InvalidUnknowns",
    "InvalidLefts", "InvalidPieces", "InUse", "Broken",
)
BARE = ("NoChoice", "NotSolvable", "NotSound", "NotAState", "NotSquare", "UnlikeSizes", "NothingToUndo")


class ErrorsTest(unittest.TestCase):
    def check_attribute(self, word, name, value):
        kind = getattr(errors, word)
        for error in (kind(value), kind(**{name: value})):
            self.assertIs(getattr(error, name), value)
            self.assertEqual(list(vars(error)), [name])
            self.assertIsInstance(str(error), str)

    def test_given_is_kept_whatever_it_is(self):
        for word in WITH_GIVEN:
            for value in wrongs.anything() + wrongs.no_fractions() + [(1, 2), "text", 5]:
                self.check_attribute(word, "given", value)

    def test_index_is_kept_whatever_it_is(self):
        for word in WITH_INDEX:
            for value in wrongs.anything() + wrongs.no_fractions() + [0, 7, "text"]:
                self.check_attribute(word, "index", value)

    def test_attributes_are_told_just_once_and_always(self):
        for word in WITH_GIVEN + WITH_INDEX:
            kind = getattr(errors, word)
            for told in ((), (1, 2)):
                with self.assertRaises(TypeError):
                    kind(*told)

    def test_parameters_have_the_names_of_the_attributes(self):
        for words, name in ((WITH_GIVEN, "given"), (WITH_INDEX, "index")):
            for word in words:
                told = inspect.signature(getattr(errors, word)).parameters
                self.assertEqual(list(told), [name])

    def test_bare_errors_have_no_attributes(self):
        for word in BARE + ("TieError",):
            self.assertEqual(vars(getattr(errors, word)()), {})

    def test_each_stands_under_the_base_alone(self):
        self.assertEqual(errors.TieError.__bases__, (ValueError,))
        for word in WITH_GIVEN + WITH_INDEX + BARE:
            kind = getattr(errors, word)
            self.assertEqual(kind.__mro__[1:], errors.TieError.__mro__)

    def test_the_module_defines_them_and_no_others(self):
        found = [
            word for word, kind in vars(errors).items()
            if isinstance(kind, type) and kind.__module__ == "hiddenties.errors"
        ]
        self.assertEqual(sorted(found), sorted(WITH_GIVEN + WITH_INDEX + BARE + ("TieError",)))
        for word in found:
            self.assertEqual(getattr(errors, word).__name__, word)

    def test_each_can_be_raised_and_caught_as_itself_and_its_bases(self):
        for word in WITH_GIVEN + WITH_INDEX + BARE:
            kind = getattr(errors, word)
            for base in (kind, errors.TieError, ValueError):
                try:
                    if word in BARE:
                        raise kind()
                    raise kind([word])
                except base as error:
                    self.assertIs(type(error), kind)


if __name__ == "__main__":
    unittest.main()
