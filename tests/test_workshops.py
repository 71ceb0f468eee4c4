"""Point 36, and the interface of hiddenties/workshops.py."""

import unittest
from random import Random

from hiddenties.errors import Broken, InUse, InvalidIndex, InvalidModel, InvalidName, InvalidWish, NothingToUndo
from hiddenties.errors import TieError, UnknownName
from hiddenties.workshops import Workshop
from tests import judge, makers, oracles, wrongs
from tests.helps import Case, raised_by
from tests.makers import BAR, EVEN, LOOP, NIL, ROD, S, SLACK, SPRING, TURN, TWINS, UNIT

SHORT_STATE, SWAY, NEAR = ((0, 0),), ((0, 0), (0, 1)), ((0, 0), (1, 0))
NAMES = ("a", "b", "oak", "zzzzzzzzzzzz")
POOL = (TWINS, EVEN, SLACK, TURN, SPRING, LOOP, ROD, BAR, makers.stirred(Random(341), TURN, 2), (((),),), ((UNIT,),))
# Wishes about a model, the model being the first one of a pair and another one the second one.
HOLDING = (
    (("solvable", "a"), TWINS, SLACK), (("solvable", "a"), ROD, SLACK), (("free", "a", 1), TWINS, SLACK),
    (("free", "a", 0), ROD, SLACK), (("free", "a", 2), SPRING, SLACK), (("sound", "a"), BAR, SLACK),
    (("states", "a", SHORT_STATE), TWINS, SLACK), (("states", "a", ()), ROD, SLACK),
    (("states", "a", SWAY), BAR, SLACK),
    (("states", "a", ((0, 0), (0, 3))), TURN, SLACK), (("alike", "a", "b"), TWINS, EVEN),
    (("alike", "b", "a"), TWINS, EVEN), (("alike", "a", "a"), BAR, SLACK),
)
FAILING = (
    (("solvable", "a"), LOOP, SLACK), (("free", "a", 0), TWINS, SLACK), (("free", "a", 0), LOOP, SLACK),
    (("free", "a", 10 ** 300), SPRING, SLACK), (("sound", "a"), TWINS, SLACK), (("sound", "a"), LOOP, SLACK),
    (("states", "a", ((1, 0),)), TWINS, SLACK), (("states", "a", ()), TWINS, SLACK),
    (("states", "a", NEAR), SPRING, SLACK),
    (("states", "a", ((0, 0), (7, 0))), TURN, SLACK), (("states", "a", NEAR), BAR, SLACK),
    (("states", "a", ()), LOOP, SLACK), (("alike", "a", "b"), TWINS, SLACK),
    (("alike", "a", "b"), TWINS, SPRING), (("alike", "a", "b"), TWINS, LOOP), (("alike", "a", "b"), LOOP, LOOP),
    (("alike", "a", "a"), LOOP, SLACK), (("alike", "b", "a"), LOOP, TWINS), (("alike", "a", "b"), SPRING, TURN),
)


def holds(wish, models):
    """Point 36 by plain search."""
    word, model = wish[0], models[wish[1]]
    if word == "alike":
        pair = (model, models[wish[2]])
        return judge.are_two(pair) and judge.is_so(("alike",) + pair)
    if oracles.determinant(model) == ():
        return False
    if word == "free":
        return oracles.free_starts(model) == wish[2]
    if word == "states":
        return judge.is_lot(wish[2], len(model)) and judge.is_so(("states", model, wish[2]))
    return word == "solvable" or oracles.is_sound(model)


def state_of(shop):
    """All that a workshop tells."""
    return shop.names, shop.wishes, len(shop), [shop.named(name) for name in shop.names]


class Mirror:
    """What a workshop has to be, by keeping all that it was."""

    def __init__(self):
        self.models, self.wishes, self.past = {}, (), []

    def state(self):
        names = tuple(sorted(self.models))
        return names, self.wishes, len(self.past), [self.models[name] for name in names]

    def kept(self):
        return dict(self.models), self.wishes, list(self.past)

    def go_back_to(self, kept):
        self.models, self.wishes, self.past = dict(kept[0]), kept[1], list(kept[2])

    def change(self, models, wishes):
        self.past.append((self.models, self.wishes))
        self.models, self.wishes = models, wishes

    def broken(self, models):
        found = [index for index, wish in enumerate(self.wishes) if not holds(wish, models)]
        return found[:1]

    def put(self, name, model):
        models = {**self.models, name: model}
        if self.broken(models):
            return Broken, self.broken(models)[0]
        return self.change(models, self.wishes)

    def drop(self, name):
        if name not in self.models:
            return UnknownName, name
        users = [index for index, wish in enumerate(self.wishes) if name in wish[1:]]
        if users:
            return InUse, users[0]
        return self.change({key: model for key, model in self.models.items() if key != name}, self.wishes)

    def wish(self, wish):
        names = wish[1:3] if wish[0] == "alike" else wish[1:2]
        unknown = [name for name in names if name not in self.models]
        if unknown:
            return UnknownName, unknown[0]
        if not holds(wish, self.models):
            return Broken, len(self.wishes)
        return self.change(self.models, self.wishes + (wish,))

    def lift(self, index):
        if not 0 <= index < len(self.wishes):
            return InvalidIndex, index
        return self.change(self.models, self.wishes[:index] + self.wishes[index + 1:])

    def undo(self):
        if not self.past:
            return NothingToUndo, None
        self.models, self.wishes = self.past.pop()
        return None


def some_wish(source):
    name = source.choice(NAMES[:3])
    return source.choice((
        ("solvable", name), ("sound", name), ("free", name, source.randint(0, 2)),
        ("alike", name, source.choice(NAMES[:3])), ("states", name, source.choice((SHORT_STATE, SWAY, NEAR, ()))),
    ))


def some_step(source, mirror):
    """The name of a method, and arguments; those that raise errors are among them."""
    word = source.choice(("put", "put", "put", "wish", "wish", "wish", "wish", "drop", "lift", "undo", "undo"))
    if word == "put":
        known = list(mirror.models.values())
        return word, (source.choice(NAMES), source.choice(list(POOL) + known))
    if word == "drop":
        return word, (source.choice(NAMES),)
    if word == "lift":
        return word, (source.randint(-1, len(mirror.wishes)),)
    if word == "wish":
        return word, (some_wish(source),)
    return word, ()


class Stop(Exception):
    pass


class Halt(BaseException):
    pass


class WorkshopCase(Case):
    def shop_with(self, **models):
        shop = Workshop()
        for name, model in models.items():
            shop.put(name, model)
        return shop

    def check_refused(self, shop, kind, kept, call, *given, **named):
        """The call raises this error, which keeps this value, and the workshop stays as it was."""
        before, past = state_of(shop), len(shop)
        error = raised_by(call, *given, **named)
        self.assertIs(type(error), kind, (call.__name__, given, named))
        told = list(vars(error).values())
        self.assertEqual(len(told), 0 if kind is NothingToUndo else 1)
        for value in told:
            self.assertTrue(value is kept or type(value) is type(kept) and value == kept, (value, kept))
        self.assertEqual((state_of(shop), len(shop)), (before, past))

    def check_step(self, shop, mirror, word, given):
        """The workshop does, or refuses, what its mirror does."""
        told, before = getattr(mirror, word)(*given), state_of(shop)
        error = raised_by(getattr(shop, word), *given)
        if told is None:
            self.assertIsNone(error, (word, given, before))
        else:
            self.assertEqual((type(error), list(vars(error).values())), (told[0], [told[1]][:len(vars(error))]))
            self.assertEqual(state_of(shop), before)
        self.assertEqual(state_of(shop), mirror.state(), (word, given))
        return told


class ChangesTest(WorkshopCase):
    def test_drawn_changes(self):
        source, seen = Random(342), {}
        for _ in range(25):
            shop, mirror = Workshop(), Mirror()
            for _ in range(40):
                word, given = some_step(source, mirror)
                told = self.check_step(shop, mirror, word, given)
                seen[word, told[0] if told else None] = True
                for name in NAMES + ("c",):
                    self.assertIs(name in shop, name in mirror.models)
        for told in (
            ("put", None), ("put", Broken), ("drop", None), ("drop", UnknownName), ("drop", InUse), ("wish", None),
            ("wish", UnknownName), ("wish", Broken), ("lift", None), ("lift", InvalidIndex), ("undo", None),
            ("undo", NothingToUndo),
        ):
            self.assertIn(told, seen)

    def test_undoing_leads_back(self):
        """One change after another, down to the empty workshop; what was undone can be done again."""
        source = Random(343)
        for _ in range(15):
            shop, mirror, states = Workshop(), Mirror(), []
            for _ in range(25):
                word, given = some_step(source, mirror)
                before = state_of(shop)
                if word != "undo" and self.check_step(shop, mirror, word, given) is None:
                    states.append(before)
            for before in states[::-1]:
                self.assertIsNone(shop.undo())
                self.assertEqual(state_of(shop), before)
            self.assertEqual(state_of(shop), ((), (), 0, []))
            self.check_refused(shop, NothingToUndo, None, shop.undo)

    def test_wishes_hold_after_each_change(self):
        source = Random(344)
        for _ in range(10):
            shop, mirror = Workshop(), Mirror()
            for _ in range(30):
                self.check_step(shop, mirror, *some_step(source, mirror))
                models = {name: shop.named(name) for name in shop.names}
                self.assertTrue(all(holds(wish, models) for wish in shop.wishes))

    def test_what_methods_return(self):
        shop = Workshop()
        self.assertIsNone(shop.put("a", TWINS))
        self.assertIsNone(shop.wish(("free", "a", 1)))
        self.assertIsNone(shop.lift(0))
        self.assertIsNone(shop.undo())
        self.assertIsNone(shop.lift(index=0))
        self.assertIsNone(shop.drop("a"))
        self.assertEqual(len(shop), 4)

    def test_names_and_wishes(self):
        shop = Workshop()
        self.assertEqual((shop.names, shop.wishes), ((), ()))
        for name in ("oak", "b", "abcdefghijkl", "z", "aa", "a"):
            shop.put(name, TWINS)
        self.assertEqual(shop.names, ("a", "aa", "abcdefghijkl", "b", "oak", "z"))
        self.assertIs(type(shop.names), tuple)
        wishes = (("free", "a", 1), ("alike", "b", "oak"), ("solvable", "z"), ("free", "a", 1))
        for wish in wishes:
            shop.wish(wish)
        self.assertEqual(shop.wishes, wishes)
        self.assertIs(type(shop.wishes), tuple)
        shop.lift(1)
        self.assertEqual(shop.wishes, (("free", "a", 1), ("solvable", "z"), ("free", "a", 1)))
        self.check_refused(shop, Broken, 3, shop.wish, ("sound", "z"))
        with self.assertRaises(AttributeError):
            shop.names = ()
        with self.assertRaises(AttributeError):
            shop.wishes = ()

    def test_models_are_kept_as_they_are(self):
        shop = self.shop_with(a=TWINS, b=LOOP)
        self.assertIs(shop.named("a"), TWINS)
        self.assertIs(shop.named(name="b"), LOOP)
        shop.put("a", SPRING)
        self.assertIs(shop.named("a"), SPRING)

    def test_changes_that_change_nothing(self):
        """Putting the model that a name has, and a wish that stands already, can be taken back, too."""
        shop = self.shop_with(a=TWINS)
        shop.put("a", TWINS)
        self.assertEqual(len(shop), 2)
        shop.wish(("solvable", "a"))
        shop.wish(("solvable", "a"))
        self.assertEqual((len(shop), shop.wishes), (4, (("solvable", "a"),) * 2))
        shop.undo()
        self.assertEqual((len(shop), shop.wishes), (3, (("solvable", "a"),)))
        shop.undo()
        shop.undo()
        self.assertEqual(state_of(shop), (("a",), (), 1, [TWINS]))

    def test_undo_is_no_change(self):
        shop = self.shop_with(a=TWINS, b=SLACK)
        shop.undo()
        self.assertEqual(len(shop), 1)
        shop.undo()
        self.assertEqual(len(shop), 0)
        self.check_refused(shop, NothingToUndo, None, shop.undo)

    def test_asking_changes_nothing(self):
        shop = self.shop_with(a=TWINS)
        shop.wish(("free", "a", 1))
        before = state_of(shop)
        for _ in range(3):
            self.assertEqual((shop.names, shop.wishes, len(shop), "a" in shop), (("a",), (("free", "a", 1),), 2, True))
            self.assertIs(shop.named("a"), TWINS)
        self.assertEqual(state_of(shop), before)


class WishesTest(WorkshopCase):
    def test_wishes_of_all_sorts(self):
        for wish, model, other in HOLDING:
            shop = self.shop_with(a=model, b=other)
            self.assertTrue(holds(wish, {"a": model, "b": other}), wish)
            shop.wish(wish)
            self.assertEqual((shop.wishes, len(shop)), ((wish,), 3))
        for wish, model, other in FAILING:
            shop = self.shop_with(a=model, b=other)
            self.assertFalse(holds(wish, {"a": model, "b": other}), wish)
            self.check_refused(shop, Broken, 0, shop.wish, wish)

    def test_putting_what_breaks_a_wish(self):
        """Also where another name of the wish gets another model."""
        for wish, model, other in HOLDING:
            for name in ("a", "b"):
                for worse in POOL:
                    shop = self.shop_with(a=model, b=other)
                    shop.wish(wish)
                    if holds(wish, {**{"a": model, "b": other}, name: worse}):
                        shop.put(name, worse)
                        self.assertIs(shop.named(name), worse)
                    else:
                        self.check_refused(shop, Broken, 0, shop.put, name, worse)

    def test_the_first_broken_one_is_told(self):
        shop = self.shop_with(a=TWINS, b=EVEN, c=SPRING)
        states = ("states", "a", SHORT_STATE)
        for wish in (("free", "c", 2), ("solvable", "a"), ("free", "a", 1), ("alike", "b", "a"), states):
            shop.wish(wish)
        self.check_refused(shop, Broken, 1, shop.put, "a", LOOP)
        self.check_refused(shop, Broken, 2, shop.put, "a", ROD)
        self.check_refused(shop, Broken, 3, shop.put, "a", ((S,),))
        self.check_refused(shop, Broken, 3, shop.put, "b", SLACK)
        self.check_refused(shop, Broken, 0, shop.put, "c", TWINS)
        self.check_refused(shop, Broken, 3, shop.put, "a", ((UNIT, ()), ((), S)))
        shop.lift(3)
        self.check_refused(shop, Broken, 3, shop.put, "a", ((UNIT, ()), ((), S)))
        self.check_refused(shop, Broken, 4, shop.wish, ("sound", "a"))

    def test_dropping_what_a_wish_names(self):
        shop = self.shop_with(a=TWINS, b=EVEN, c=SPRING)
        for wish in (("solvable", "c"), ("alike", "a", "b"), ("free", "b", 1)):
            shop.wish(wish)
        for name, index in (("c", 0), ("a", 1), ("b", 1)):
            self.check_refused(shop, InUse, index, shop.drop, name)
        shop.lift(1)
        shop.drop("a")
        self.check_refused(shop, InUse, 1, shop.drop, "b")
        shop.lift(0)
        shop.drop("c")
        self.assertEqual((shop.names, shop.wishes), (("b",), (("free", "b", 1),)))
        self.check_refused(shop, UnknownName, "a", shop.drop, "a")

    def test_a_wish_about_one_name_twice(self):
        shop = self.shop_with(a=TWINS)
        shop.wish(("alike", "a", "a"))
        shop.put("a", SPRING)
        self.check_refused(shop, Broken, 0, shop.put, "a", LOOP)
        self.check_refused(shop, InUse, 0, shop.drop, "a")

    def test_unknown_names(self):
        """The first of the names of the wish that has no model."""
        shop = self.shop_with(a=TWINS, b=LOOP)
        for wish, name in (
            (("solvable", "c"), "c"), (("free", "c", 1), "c"), (("sound", "c"), "c"), (("states", "c", ()), "c"),
            (("alike", "c", "d"), "c"), (("alike", "d", "c"), "d"), (("alike", "a", "c"), "c"),
            (("alike", "c", "a"), "c"), (("alike", "b", "c"), "c"),
        ):
            self.check_refused(shop, UnknownName, name, shop.wish, wish)


class TrialsTest(WorkshopCase):
    def test_call_alone(self):
        shop = self.shop_with(a=TWINS)
        before = state_of(shop)
        shop.trial()
        self.assertEqual(state_of(shop), before)
        self.assertTrue(shop.trial())

    def test_ends(self):
        """By a value, an error of the package, one of Python's own, and what is no error at all."""
        for kind in (Stop, Halt, ZeroDivisionError, KeyError, GeneratorExit, KeyboardInterrupt, StopIteration, Broken):
            shop = self.shop_with(a=TWINS, b=EVEN)
            shop.wish(("free", "a", 1))
            before, error = state_of(shop), kind(7)
            with self.assertRaises(kind) as caught:
                with shop.trial() as told:
                    self.assertIs(told, shop)
                    told.lift(0)
                    told.put("a", LOOP)
                    told.undo()
                    told.drop("b")
                    raise error
            self.assertIs(caught.exception, error)
            self.assertEqual(state_of(shop), before)
            shop.undo()
            self.assertEqual(state_of(shop), (("a", "b"), (), 2, [TWINS, EVEN]))
        with shop.trial() as told:
            told.put("c", ROD)
        self.assertEqual(state_of(shop), (("a", "b", "c"), (), 3, [TWINS, EVEN, ROD]))

    def test_refused_changes_within_a_trial(self):
        shop = self.shop_with(a=TWINS)
        shop.wish(("solvable", "a"))
        before = state_of(shop)
        with self.assertRaises(Broken) as caught:
            with shop.trial():
                shop.put("b", SPRING)
                shop.put("a", LOOP)
        self.assertEqual(caught.exception.index, 0)
        self.assertEqual(state_of(shop), before)
        # An error that is caught within the block does not end it.
        with shop.trial():
            shop.put("b", SPRING)
            self.check_refused(shop, Broken, 0, shop.put, "a", LOOP)
        self.assertEqual(shop.names, ("a", "b"))

    def test_leaving_by_return_and_break(self):
        def left(shop):
            with shop.trial():
                shop.put("b", SPRING)
                return "left"

        shop = self.shop_with(a=TWINS)
        self.assertEqual(left(shop), "left")
        for name in ("c", "d"):
            with shop.trial():
                shop.put(name, ROD)
                break
        self.assertEqual(state_of(shop), (("a", "b", "c"), (), 3, [TWINS, SPRING, ROD]))

    def test_undoing_what_was_done_ahead(self):
        """It can be undone within, and is back, with what can be taken back, if the block ends with an error."""
        shop = self.shop_with(a=TWINS, b=EVEN)
        shop.wish(("alike", "a", "b"))
        before = state_of(shop)
        with self.assertRaises(NothingToUndo):
            with shop.trial():
                for _ in range(4):
                    shop.undo()
        self.assertEqual(state_of(shop), before)
        with self.assertRaises(Stop):
            with shop.trial():
                shop.undo()
                shop.put("a", ROD)
                shop.put("c", ROD)
                raise Stop()
        self.assertEqual(state_of(shop), before)
        shop.undo()
        shop.undo()
        self.assertEqual(state_of(shop), (("a",), (), 1, [TWINS]))
        with shop.trial():
            shop.undo()
        self.assertEqual(state_of(shop), ((), (), 0, []))

    def test_trials_within_trials(self):
        shop = self.shop_with(a=TWINS)
        with shop.trial() as outer:
            outer.put("b", EVEN)
            with self.assertRaises(Stop):
                with outer.trial() as inner:
                    inner.put("c", ROD)
                    inner.undo()
                    inner.undo()
                    inner.undo()
                    raise Stop()
            self.assertEqual(state_of(shop), (("a", "b"), (), 2, [TWINS, EVEN]))
            with outer.trial() as inner:
                inner.put("d", SPRING)
        self.assertEqual(state_of(shop), (("a", "b", "d"), (), 3, [TWINS, EVEN, SPRING]))
        with self.assertRaises(Halt):
            with shop.trial():
                with shop.trial():
                    shop.put("e", ROD)
                self.assertIn("e", shop)
                raise Halt()
        self.assertEqual(state_of(shop), (("a", "b", "d"), (), 3, [TWINS, EVEN, SPRING]))

    def test_one_trial_entered_again(self):
        """What a call of `trial` gave may stand over several blocks, also one within the other."""
        shop = self.shop_with(a=TWINS)
        trial = shop.trial()
        with self.assertRaises(Stop):
            with trial:
                shop.put("b", ROD)
                with self.assertRaises(Stop):
                    with trial:
                        shop.put("c", ROD)
                        raise Stop()
                self.assertEqual(shop.names, ("a", "b"))
                with trial:
                    shop.put("d", ROD)
                raise Stop()
        self.assertEqual(shop.names, ("a",))
        with trial:
            shop.put("e", ROD)
        self.assertEqual(shop.names, ("a", "e"))

    def test_tried(self):
        shop = self.shop_with(a=TWINS)
        self.assertEqual(shop.tried(lambda told: (told is shop, told.put("b", ROD))), (True, None))
        self.assertEqual(shop.tried(action=len), 2)
        self.assertIs(shop.tried(lambda told: told), shop)

        def stops(told):
            told.put("c", ROD)
            told.drop("a")
            raise Stop(told.names)

        with self.assertRaises(Stop) as caught:
            shop.tried(stops)
        self.assertEqual(caught.exception.args, (("b", "c"),))
        self.assertEqual(state_of(shop), (("a", "b"), (), 2, [TWINS, ROD]))
        with self.assertRaises(UnknownName):
            shop.tried(lambda told: (told.undo(), told.named("b")))
        self.assertEqual(len(shop), 2)
        with self.assertRaises(TypeError):
            shop.tried(None)
        self.assertEqual(state_of(shop), (("a", "b"), (), 2, [TWINS, ROD]))

    def run_trial(self, source, shop, mirror, depth, ends):
        """Steps, and trials among them, within a trial that ends in a drawn way."""
        end = source.choice(("value", "own", "python", "halt"))
        kept, ends[end] = mirror.kept(), True

        def steps(told):
            for _ in range(source.randint(1, 5)):
                if depth < 3 and source.randrange(3) == 0:
                    self.run_trial(source, told, mirror, depth + 1, ends)
                else:
                    self.check_step(told, mirror, *some_step(source, mirror))
            if end == "own":
                told.named("nobody")
            if end == "python":
                return 1 // 0
            if end == "halt":
                raise Halt()
            return end

        try:
            if source.randrange(2):
                self.assertEqual(shop.tried(steps), "value")
            else:
                with shop.trial() as told:
                    steps(told)
        except (UnknownName, ZeroDivisionError, Halt) as error:
            self.assertNotEqual(end, "value", error)
            mirror.go_back_to(kept)
        self.assertEqual(state_of(shop), mirror.state())

    def test_drawn_trials(self):
        source, ends = Random(345), {}
        for _ in range(30):
            shop, mirror = Workshop(), Mirror()
            for _ in range(6):
                self.check_step(shop, mirror, *some_step(source, mirror))
            for _ in range(4):
                self.run_trial(source, shop, mirror, 0, ends)
            while mirror.past:
                self.check_step(shop, mirror, "undo", ())
            self.check_refused(shop, NothingToUndo, None, shop.undo)
        self.assertEqual(len(ends), 4)


class ObjectsTest(WorkshopCase):
    def test_truth_and_length(self):
        shop = Workshop()
        self.assertEqual(len(shop), 0)
        self.assertIs(bool(shop), True)
        shop.put("a", TWINS)
        self.assertIs(bool(shop), True)
        self.assertEqual(len(shop), 1)

    def test_equal_to_itself_alone(self):
        shop, other = self.shop_with(a=TWINS), self.shop_with(a=TWINS)
        self.assertTrue(shop == shop)
        self.assertFalse(shop != shop)
        self.assertTrue(shop != other)
        for value in [other, Workshop()] + wrongs.untouchy():
            self.assertIs(shop == value, False)
            self.assertIs(shop != value, True)

    def test_workshops_do_not_disturb_one_another(self):
        source = Random(346)
        shops, mirrors = [Workshop() for _ in range(3)], [Mirror() for _ in range(3)]
        for _ in range(120):
            at = source.randrange(3)
            self.check_step(shops[at], mirrors[at], *some_step(source, mirrors[at]))
            for shop, mirror in zip(shops, mirrors):
                self.assertEqual(state_of(shop), mirror.state())

    def test_trials_of_one_workshop_leave_others_alone(self):
        shop, other = self.shop_with(a=TWINS), self.shop_with(a=ROD)
        with self.assertRaises(Stop):
            with shop.trial():
                shop.put("b", ROD)
                other.put("b", SPRING)
                raise Stop()
        self.assertEqual((shop.names, other.names), (("a",), ("a", "b")))

    def test_names_that_are_in(self):
        shop = self.shop_with(a=TWINS, abcdefghijkl=ROD)
        self.assertIs("a" in shop, True)
        self.assertIs("abcdefghijkl" in shop, True)
        for value in wrongs.no_names() + ["b", "aa"]:
            self.assertIs(value in shop, False)
            self.assertIs(value not in shop, True)

    def test_interface(self):
        shop = Workshop()
        self.check_names(Workshop)
        for word, names in (
            ("put", ("name", "model")), ("drop", ("name",)), ("wish", ("wish",)), ("lift", ("index",)),
            ("named", ("name",)), ("undo", ()), ("trial", ()), ("tried", ("action",)),
        ):
            self.assertIn(word, vars(Workshop))
            self.check_names(getattr(shop, word), *names)
        for word in ("names", "wishes", "__len__", "__contains__"):
            self.assertIn(word, vars(Workshop))
        self.assertEqual(Workshop.__module__, "hiddenties.workshops")
        shop.put(model=TWINS, name="a")
        shop.wish(wish=("free", "a", 1))
        shop.lift(index=0)
        shop.drop(name="a")
        self.assertEqual(len(shop), 4)


class ErrorsTest(WorkshopCase):
    def test_wrong_names(self):
        shop = self.shop_with(a=TWINS)
        for wrong in wrongs.no_names():
            self.check_refused(shop, InvalidName, wrong, shop.put, wrong, TWINS)
            self.check_refused(shop, InvalidName, wrong, shop.put, wrong, None)
            self.check_refused(shop, UnknownName, wrong, shop.drop, wrong)
            self.check_refused(shop, UnknownName, wrong, shop.named, wrong)
        for name in ("b", "aa", "abcdefghijkl"):
            self.check_refused(shop, UnknownName, name, shop.drop, name)
            self.check_refused(shop, UnknownName, name, shop.named, name)

    def test_wrong_models(self):
        shop = self.shop_with(a=TWINS)
        shop.wish(("solvable", "a"))
        for wrong in wrongs.no_models():
            for name in ("a", "b"):
                self.check_refused(shop, InvalidModel, wrong, shop.put, name, wrong)

    def test_wrong_wishes(self):
        shop = self.shop_with(a=TWINS)
        for wrong in wrongs.no_wishes():
            self.check_refused(shop, InvalidWish, wrong, shop.wish, wrong)
        # What is a wish, though it does not hold or names what has no model.
        for wish in (("free", "b", 10 ** 300), ("states", "b", ((0, 40), (40, 0))), ("alike", "b", "b")):
            self.check_refused(shop, UnknownName, "b", shop.wish, wish)

    def test_wrong_indexes(self):
        shop = self.shop_with(a=TWINS)
        for wrong in wrongs.no_indexes(0) + [0]:
            self.check_refused(shop, InvalidIndex, wrong, shop.lift, wrong)
        shop.wish(("solvable", "a"))
        shop.wish(("free", "a", 1))
        for wrong in wrongs.no_indexes(2):
            self.check_refused(shop, InvalidIndex, wrong, shop.lift, wrong)

    def test_the_first_error_is_told(self):
        shop = self.shop_with(a=TWINS)
        shop.wish(("solvable", "a"))
        self.check_refused(shop, InvalidName, "A", shop.put, "A", [])
        self.check_refused(shop, InvalidModel, LOOP + LOOP, shop.put, "a", LOOP + LOOP)
        self.check_refused(shop, InvalidWish, ("alike", "b", "B"), shop.wish, ("alike", "b", "B"))
        self.check_refused(shop, UnknownName, "b", shop.wish, ("alike", "b", "a"))
        self.check_refused(shop, Broken, 1, shop.wish, ("states", "a", ((5, 0),)))

    def test_errors_stand_under_the_base(self):
        for kind in (Broken, InUse, InvalidIndex, InvalidModel, InvalidName, InvalidWish, NothingToUndo, UnknownName):
            self.assertTrue(issubclass(kind, TieError))

    def test_nothing_passed_is_changed(self):
        shop, wish, model = Workshop(), ["solvable", "a"], [[(UNIT,)], (NIL,)]
        before = repr((wish, model))
        raised_by(shop.wish, wish)
        raised_by(shop.put, "a", model)
        self.assertEqual(repr((wish, model)), before)
        self.assertEqual(len(shop), 0)


if __name__ == "__main__":
    unittest.main()
