"""Workshops: models under names, and wishes that hold after each change."""

from hiddenties.errors import Broken, InUse, InvalidName, InvalidWish, NothingToUndo, UnknownName
from hiddenties.values import check_index, check_model
from hiddenties.wishes import holds, is_name, is_wish, names_in


class Entry:
    """What a workshop was when a block was entered; `_outer` is the entry of a block around it."""

    def __init__(self, shop, outer):
        self._models = shop._models
        self._wishes = shop._wishes
        self._past = list(shop._past)
        self._outer = outer


class Trial:
    """For a `with` statement: an error in its block leaves the workshop as it was."""

    def __init__(self, shop):
        self._shop = shop
        self._entry = None

    def __enter__(self):
        self._entry = Entry(self._shop, self._entry)
        return self._shop

    def __exit__(self, kind, value, trace):
        shop = self._shop
        if kind is not None:
            shop._models = self._entry._models
            shop._wishes = self._entry._wishes
            shop._past = self._entry._past
        self._entry = self._entry._outer


def first_wish_about(wishes, name):
    """The index of the first wish that names a model; None."""
    for index, wish in enumerate(wishes):
        if name in names_in(wish):
            return index
    return None


def check_wishes(wishes, models, name):
    """Only wishes that name what is new can be broken."""
    for index, wish in enumerate(wishes):
        if name in names_in(wish) and not holds(wish, models):
            raise Broken(index)


class Workshop:
    """Models under names, wishes about them, and the changes that can be taken back.

    The dicts and tuples kept are never changed, only replaced, so earlier ones can be put back.
    """

    def __init__(self):
        self._models = {}
        self._wishes = ()
        self._past = []

    def __len__(self):
        return len(self._past)

    def __bool__(self):
        return True

    def __contains__(self, name):
        return is_name(name) and name in self._models

    @property
    def names(self):
        """The ascending tuple of the names."""
        return tuple(sorted(list(self._models)))

    @property
    def wishes(self):
        """The tuple of the wishes, in the order in which they came."""
        return self._wishes

    def _change_to(self, models, wishes):
        """Put others in the place of the models and wishes."""
        self._past.append((self._models, self._wishes))
        self._models = models
        self._wishes = wishes

    def put(self, name, model):
        """Put a model under a name, or in the place of the one that has it."""
        if not is_name(name):
            raise InvalidName(name)
        check_model(model)
        models = {**self._models, name: model}
        check_wishes(self._wishes, models, name)
        self._change_to(models, self._wishes)

    def drop(self, name):
        """Take a name and its model away."""
        if name not in self:
            raise UnknownName(name)
        index = first_wish_about(self._wishes, name)
        if index is not None:
            raise InUse(index)
        models = {other: self._models[other] for other in self._models if other != name}
        self._change_to(models, self._wishes)

    def wish(self, wish):
        """Wish something that holds, and will hold from now on."""
        if not is_wish(wish):
            raise InvalidWish(wish)
        for name in names_in(wish):
            if name not in self:
                raise UnknownName(name)
        if not holds(wish, self._models):
            raise Broken(len(self._wishes))
        self._change_to(self._models, self._wishes + (wish,))

    def lift(self, index):
        """Take a wish away."""
        check_index(index, len(self._wishes))
        self._change_to(self._models, self._wishes[:index] + self._wishes[index + 1:])

    def named(self, name):
        """The model that has a name."""
        if name not in self:
            raise UnknownName(name)
        return self._models[name]

    def undo(self):
        """Take back the last change."""
        if len(self._past) == 0:
            raise NothingToUndo()
        models, wishes = self._past.pop()
        self._models = models
        self._wishes = wishes

    def trial(self):
        """For a `with` statement: if its block ends with an error, all is as it was ahead of it."""
        return Trial(self)

    def tried(self, action):
        """What a function returns that is called with the workshop within such a statement."""
        with self.trial() as shop:
            return action(shop)
