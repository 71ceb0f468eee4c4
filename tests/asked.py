"""Questions for certificates: patterns, models, rows, lots and pairs of models, the same ones in each run."""

from random import Random

from hiddenties.certificates import certify_alike, certify_change, certify_solvable, certify_sound, certify_states
from hiddenties.certificates import certify_sure, certify_tie, certify_weight
from hiddenties.motions import free_places
from hiddenties.plains import plain_lot
from tests import makers, oracles
from tests.makers import ALIKE, BAR, CHAIN, LOOP, LOOSE, NOUGHT, ROD, SHORT, SLACK, SPRING, SWING, TURN, TWINS, UNIT

# Each claim and the one that excludes it.
CONTRARY = {
    "weight": "no choice", "sure": "not sure", "solvable": "loose", "sound": "weak", "tie": "no tie",
    "states": "no states", "alike": "unlike", "carries": "loses",
}
CONTRARY.update({no: yes for yes, no in list(CONTRARY.items())})

PATTERNS = makers.some_patterns(301, 60) + [SWING, CHAIN, SHORT, ((None,),), ((3,),), ((0,),)]
SOLVABLE = makers.solvable_models(302, 30)
MODELS = SOLVABLE + makers.loose_models(303, 12) + [LOOP, ALIKE, NOUGHT, (((),),)]
PAIRS = makers.some_pairs(304, SOLVABLE[::2])


def some_rows(source, model):
    """Ties and other rows, noughts among them."""
    tie, _ = makers.some_tie(source, model)
    return [
        tie, makers.with_one_changed(source, tie), makers.some_row(source, len(model), 2), model[0], ((),) * len(model),
    ]


def some_lots(source, model):
    """State lots and others, the empty one among them."""
    many = len(model)
    return [
        (), plain_lot(model), free_places(model), makers.some_lot(source, many, source.randint(1, 4), 3),
        makers.some_lot(source, many, oracles.free_starts(model), 3), plain_lot(model)[1:],
    ]


def of_models():
    source, found = Random(305), []
    for model in SOLVABLE:
        found += [(certify_tie, (model, row)) for row in some_rows(source, model)]
        found += [(certify_states, (model, lot)) for lot in some_lots(source, model)]
        found.append((certify_sound, (model,)))
    return found


def of_pairs():
    source, found = Random(306), []
    for model, other in PAIRS:
        found.append((certify_alike, (model, other)))
        lots = [makers.some_lot(source, len(model), source.randint(1, 5), source.choice((1, 2, 3))), plain_lot(other)]
        found += [(certify_change, (model, other, lot)) for lot in lots]
    return found


def by_hand():
    """Edges: no choice at all, N of 0, the empty lot, one unknown, the same model twice."""
    return [
        (certify_sure, (((None, None), (None, None)),)), (certify_states, (ROD, ())), (certify_states, (BAR, ())),
        (certify_states, (ROD, ((0, 0),))), (certify_tie, (ROD, (UNIT, (), UNIT))), (certify_alike, (ROD, ROD)),
        (certify_change, (ROD, BAR, ())), (certify_change, (BAR, ROD, ())),
        (certify_change, (ROD, ROD, ((0, 0), (2, 3)))),
        (certify_change, (LOOSE, BAR, ((0, 0), (1, 0)))), (certify_alike, (TWINS, SLACK)),
        (certify_alike, (SLACK, TURN)),
        (certify_states, (SPRING, ((0, 0), (0, 3)))), (certify_states, (SPRING, ((0, 0), (0, 2)))),
        (certify_states, (TURN, ((0, 40), (1, 40)))), (certify_states, (TURN, ((0, 39),))),
    ]


QUESTIONS = (
    [(certify_weight, (pattern,)) for pattern in PATTERNS] + [(certify_sure, (pattern,)) for pattern in PATTERNS]
    + [(certify_solvable, (model,)) for model in MODELS] + of_models() + of_pairs() + by_hand()
)


def contraries(claim):
    """Claims that a claim excludes."""
    word, rest = claim[0], claim[1:]
    if word == "weight":
        pattern, number = rest
        others = [("weight", pattern, other) for other in (number - 1, number + 1, number + 7) if other >= 0]
        return others + [("no choice", pattern)]
    if word == "no choice":
        return [("weight", rest[0], number) for number in range(4)]
    return [(CONTRARY[word],) + rest]
