"""Papers: the polynomials by which the rows of a model make a tie."""

from hiddenties.polys import quotient
from hiddenties.polytables import determinant


def paper_by(model, row, below):
    """The row v with v times the model as this row; None. `below` is the determinant of the model.

    By Cramer: v_i is the determinant with this row in place of row i, over that of the model.
    """
    paper = []
    for k in range(len(model)):
        item = quotient(determinant(model[:k] + (row,) + model[k + 1:]), below)
        if item is None:
            return None
        paper.append(item)
    return tuple(paper)


def paper_of(model, row):
    """The row v with v times the model as this row; None."""
    return paper_by(model, row, determinant(model))


def papers_of(model, rows):
    """The table of the papers of ties."""
    below = determinant(model)
    return tuple([paper_by(model, row, below) for row in rows])
