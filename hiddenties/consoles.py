"""Consoles: a workshop asked and changed by lines of text."""

from hiddenties.choices import heaviest_weight
from hiddenties.errors import InvalidPhrase, NotAWorkshop
from hiddenties.models import determinant_of, pattern_of
from hiddenties.texts import model_text, model_told, polynomial_text
from hiddenties.wishes import is_name
from hiddenties.workshops import Workshop

ALONE = ("undo", "names")
WITH_NAME = ("drop", "model", "determinant", "starts", "weight")


def phrase_of(line):
    """The word, the name and the model that a line tells, None for what it tells not; None for no such line."""
    if not isinstance(line, str):
        return None
    if line in ALONE:
        return line, None, None
    word, _, rest = line.partition(" ")
    if word in WITH_NAME and is_name(rest):
        return word, rest, None
    name, _, text = rest.partition(": ")
    if word != "put" or not is_name(name):
        return None
    model = model_told(text)
    if model is None:
        return None
    return word, name, model


def starts_text(model):
    """How many free starts a model has, as a text."""
    told = determinant_of(model)
    return str(len(told) - 1) if len(told) > 0 else "loose"


def weight_text(model):
    """The heaviest weight of the pattern of a model, as a text."""
    weight = heaviest_weight(pattern_of(model))
    return str(weight) if weight is not None else "none"


def answer_about(word, model):
    """What is answered about a model."""
    if word == "model":
        return model_text(model)
    if word == "determinant":
        return polynomial_text(determinant_of(model))
    if word == "starts":
        return starts_text(model)
    return weight_text(model)


class Console:
    """What asks and changes a workshop."""

    def __init__(self, shop):
        if not isinstance(shop, Workshop):
            raise NotAWorkshop(shop)
        self._shop = shop

    def say(self, line):
        """The answer to a line."""
        phrase = phrase_of(line)
        if phrase is None:
            raise InvalidPhrase(line)
        word, name, model = phrase
        if word == "names":
            names = self._shop.names
            return " ".join(names) if len(names) > 0 else "none"
        if word == "put":
            self._shop.put(name, model)
        elif word == "drop":
            self._shop.drop(name)
        elif word == "undo":
            self._shop.undo()
        else:
            return answer_about(word, self._shop.named(name))
        return "done"
