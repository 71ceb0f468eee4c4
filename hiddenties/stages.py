"""Stages: the growths of a sound model solved one stage after another, and what may be left to choose."""

from hiddenties.checks import check_number, check_unknowns
from hiddenties.errors import InvalidLefts, NotSolvable, NotSound
from hiddenties.fracs import common_below, wholes_of
from hiddenties.models import is_solvable, is_sound
from hiddenties.polytables import is_regular, leading_table, orders_of
from hiddenties.tables import stairs
from hiddenties.tight import choice_and_offsets
from hiddenties.values import is_index_tuple, is_tuple


class Plan:
    """The least offsets of a sound model, its greatest stage, and its leading numbers for these offsets."""

    def __init__(self, model):
        self.grown, self.settled = choice_and_offsets(orders_of(model))[1]
        self.greatest = max(self.settled)
        self.leading = leading_table(model, (self.grown, self.settled))


def plan_of(model):
    """What tells the stages of a model, which has to be a sound one."""
    if not is_sound(model):
        if not is_solvable(model):
            raise NotSolvable()
        raise NotSound()
    return Plan(model)


def plan_at(model, stage):
    """What tells the stages of a model, beside a stage."""
    plan = plan_of(model)
    check_number(stage, 0)
    return plan


def unknowns_of(plan, stage):
    """The unknowns of a stage, ascending."""
    return [unknown for unknown, growth in enumerate(plan.settled) if growth >= stage]


def columns_of(plan, stage, unknowns):
    """The columns of some unknowns in the table of a stage, row by row."""
    rows = [row for row, times in zip(plan.leading, plan.grown) if times >= stage]
    return tuple([tuple([row[unknown] for unknown in unknowns]) for row in rows])


def independent_columns(table, width):
    """The ascending indexes of the columns that are no sum of multiples of those taken before."""
    return stairs([wholes_of(row, common_below(row)) for row in table], width)[2]


def first_solved(plan, stage):
    """The unknowns, ascending, for which the first choice solves each stage, from 0 up to one."""
    solved = [list(range(len(plan.settled)))]
    for later in range(1, stage + 1):
        told = [unknown for unknown in solved[-1] if plan.settled[unknown] >= later]
        taken = independent_columns(columns_of(plan, later, told), len(told))
        solved.append([told[k] for k in taken])
    return solved


def can_be_left(plan, stage, unknowns):
    """Whether a stage can be solved for all its unknowns but these."""
    told = unknowns_of(plan, stage)
    if not 1 <= stage <= plan.greatest or not all([unknown in told for unknown in unknowns]):
        return False
    others = [unknown for unknown in told if unknown not in unknowns]
    table = columns_of(plan, stage, others)
    if len(table) != len(others):
        return False
    return len(others) == 0 or is_regular(table)


def left_lot(plan, lefts):
    """The lot of the places of all that is left, told for the stages from 1 on."""
    places = []
    for below, unknowns in enumerate(lefts):
        places.extend([(unknown, plan.settled[unknown] - below - 1) for unknown in unknowns])
    return tuple(sorted(places))


def first_stage(model):
    """The greatest stage, from which on the model is solved."""
    return plan_of(model).greatest


def stage_equations(model, stage):
    """The ascending tuple of the pairs (equation, times grown) of a stage."""
    plan = plan_at(model, stage)
    return tuple([(equation, times - stage) for equation, times in enumerate(plan.grown) if times >= stage])


def stage_places(model, stage):
    """The lot of the places of a stage."""
    plan = plan_at(model, stage)
    return tuple([(unknown, plan.settled[unknown] - stage) for unknown in unknowns_of(plan, stage)])


def stage_table(model, stage):
    """The leading numbers of the equations and the unknowns of a stage."""
    plan = plan_at(model, stage)
    return columns_of(plan, stage, unknowns_of(plan, stage))


def solved_unknowns(model, stage):
    """The ascending tuple of the unknowns for which the first choice solves a stage."""
    plan = plan_at(model, stage)
    return tuple(first_solved(plan, stage)[stage])


def stage_lot(model):
    """The state lot of all that the first choice leaves."""
    plan = plan_of(model)
    solved = first_solved(plan, plan.greatest)
    return left_lot(plan, [
        [unknown for unknown in unknowns_of(plan, stage) if unknown not in solved[stage]]
        for stage in range(1, plan.greatest + 1)
    ])


def may_be_left(model, stage, unknowns):
    """Whether these unknowns may be left at a stage."""
    plan = plan_at(model, stage)
    check_unknowns(unknowns, len(model))
    return can_be_left(plan, stage, unknowns)


def lot_of_lefts(model, lefts):
    """The state lot of all that is left, told for the greatest stage, the next lower one, and so on."""
    plan = plan_of(model)
    if not is_tuple(lefts, plan.greatest):
        raise InvalidLefts(None)
    for index, unknowns in enumerate(lefts):
        if not is_index_tuple(unknowns, len(model)) or not can_be_left(plan, plan.greatest - index, unknowns):
            raise InvalidLefts(index)
    return left_lot(plan, lefts[::-1])
