"""What many tests ask."""

import inspect
import unittest

from hiddenties.errors import TieError


def raised_by(call, *given, **named):
    """The error of the package that a call raises; None."""
    try:
        call(*given, **named)
    except TieError as error:
        return error
    return None


def is_plain(value):
    """Whether a value is a whole number, None, True, False or a tuple of such, of no derived class."""
    if type(value) is tuple:
        return all(is_plain(item) for item in value)
    return value is None or type(value) in (int, bool)


def no_flags(value):
    """Whether True and False stand nowhere in a value."""
    if type(value) is tuple:
        return all(no_flags(item) for item in value)
    return type(value) is not bool


class Case(unittest.TestCase):
    """A test with questions of the document's conventions."""

    def check_error(self, kind, call, *given, keeps=(), **named):
        """The call raises this error, of this very class, which keeps this value as its attribute."""
        error = raised_by(call, *given, **named)
        self.assertIs(type(error), kind, (call.__name__, given, named))
        for name, value in keeps:
            self.assertIs(getattr(error, name), value)
        self.assertEqual(sorted(vars(error)), sorted(name for name, _ in keeps))

    def check_given(self, kind, wrong, call, *given, **named):
        """The call raises this error with `given` as the very value that was wrong, and leaves it as it was."""
        before = [repr(value) for value in given]
        self.check_error(kind, call, *given, keeps=(("given", wrong),), **named)
        self.assertEqual(before, [repr(value) for value in given])

    def check_equal(self, told, wanted, about=None):
        """Equal values of the very same kinds."""
        self.assertEqual(told, wanted, about)
        self.assertTrue(is_plain(told), (told, about))
        self.assertEqual(repr(told), repr(wanted), about)

    def check_names(self, call, *names):
        """The parameters have these names, no others, and no default values; each is passed by position or name."""
        parameters = inspect.signature(call).parameters.values()
        self.assertEqual([parameter.name for parameter in parameters], list(names))
        for parameter in parameters:
            self.assertIs(parameter.default, inspect.Parameter.empty)
            self.assertIs(parameter.kind, inspect.Parameter.POSITIONAL_OR_KEYWORD)

    def check_home(self, call, module):
        """The function is defined in this module."""
        self.assertEqual(call.__module__, module)
