"""What many tests ask."""

import inspect
import unittest
from itertools import product

from hiddenties.errors import TieError


def raised_by(call, *given, **named):
    """The error of the package that a call raises; None."""
    try:
        call(*given, **named)
    except TieError as error:
        return error
    return None


def is_plain(value):
    """Whether a value is a whole number, None, True, False or a tuple of such, of no derived class."""
    if type(value) is tuple:
        return all(is_plain(item) for item in value)
    return value is None or type(value) in (int, bool)


def no_flags(value):
    """Whether True and False stand nowhere in a value."""
    if type(value) is tuple:
        return all(no_flags(item) for item in value)
    return type(value) is not bool


class Case(unittest.TestCase):
    """A test with questions of the document's conventions."""

    def check_error(self, kind, call, *given, keeps=(), **named):
        """The call raises this error, of this very class, which keeps this value as its attribute."""
        error = raised_by(call, *given, **named)
        self.assertIs(type(error), kind, (call.__name__, given, named))
        for name, value in keeps:
            self.assertIs(getattr(error, name), value)
        self.assertEqual(sorted(vars(error)), sorted(name for name, _ in keeps))

    def check_given(self, kind, wrong, call, *given, **named):
        """The call raises this error with `given` as the very value that was wrong, and leaves it as it was."""
        before = [repr(value) for value in given]
        self.check_error(kind, call, *given, keeps=(("given", wrong),), **named)
        self.assertEqual(before, [repr(value) for value in given])

    def check_equal(self, told, wanted, about=None):
        """Equal values of the very same kinds."""
        self.assertEqual(told, wanted, about)
        self.assertTrue(is_plain(told), (told, about))
        self.assertEqual(repr(told), repr(wanted), about)

    def check_names(self, call, *names):
        """The parameters have these names, no others, and no default values; each is passed by position or name."""
        parameters = inspect.signature(call).parameters.values()
        self.assertEqual([parameter.name for parameter in parameters], list(names))
        for parameter in parameters:
            self.assertIs(parameter.default, inspect.Parameter.empty)
            self.assertIs(parameter.kind, inspect.Parameter.POSITIONAL_OR_KEYWORD)

    def check_right(self, call, right, module):
        """A function of this module that takes these right arguments, a dict in their order."""
        self.check_names(call, *right)
        self.check_home(call, module.__name__)
        self.assertEqual(call(**right), call(*right.values()))
        self.assertEqual(call(**right), call(**dict(list(right.items())[::-1])))

    def check_home(self, call, module):
        """The function is defined in this module."""
        self.assertEqual(call.__module__, module)

    def check_index(self, kind, index, call, *given, **named):
        """The call raises this error with this very index, and leaves what it was passed as it was."""
        before = [repr(value) for value in given]
        self.check_error(kind, call, *given, keeps=(("index", index),), **named)
        self.assertIs(type(raised_by(call, *given, **named).index), type(index))
        self.assertEqual(before, [repr(value) for value in given])

    def check_turns(self, call, right, wrong, last=()):
        """Of several wrong arguments the first one is told of, in the order of the signature.

        `right` is a dict of right arguments in this order, `wrong` a dict of lists of triples, for
        some of the arguments: a wrong value, the class of its error, and what this keeps. `last`
        are pairs: a dict of some arguments beside which all others are right, and the error then.
        """
        self.assertIsNone(raised_by(call, **right))
        choices = [[None] + wrong.get(name, []) for name in right]
        bases = [(right, None)] + [({**right, **changed}, kind) for changed, kind in last]
        for base, kind in bases:
            for picked in product(*choices):
                given = dict(base)
                for name, told in zip(right, picked):
                    if told is not None:
                        given[name] = told[0]
                first = [told for told in picked if told is not None][:1]
                self.check_turn(call, given, first, kind)

    def check_turn(self, call, given, first, kind):
        for error in (raised_by(call, **given), raised_by(call, *given.values())):
            if not first:
                self.assertIs(type(error), kind if kind else type(None), (call.__name__, given))
                continue
            _, wanted, kept = first[0]
            self.assertIs(type(error), wanted, (call.__name__, given))
            self.assertEqual([repr(value) for value in vars(error).values()], [repr(value) for value in kept])

    def check_many_errors(self, kind, told, call, *names, **right):
        """Each of the pairs of a wrong value and the index told raises the error, whatever the others are."""
        for wrong, index in told:
            for name in names:
                self.check_index(kind, index, call, **{**right, name: wrong})
