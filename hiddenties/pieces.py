"""Pieces with ports: rows of polynomials that become a model when the ports are joined in nodes."""

from hiddenties.errors import InvalidJoints, InvalidPiece, InvalidPieces, NotSquare
from hiddenties.polys import UNIT, added, scaled
from hiddenties.values import is_index, is_natural, is_row, is_tuple

LESS = (-1, 1)


def is_piece(value):
    """Whether a value, whatever it is, is a piece."""
    if not (is_tuple(value, 2) and is_natural(value[0]) and value[0] > 0 and isinstance(value[1], tuple)):
        return False
    ports, rows = value
    if len(rows) == 0:
        return True
    # The first row tells the width, if it is a tuple at all.
    width = len(rows[0]) if isinstance(rows[0], tuple) else 0
    return width >= 2 * ports and all([is_row(row, width) for row in rows])


def check_piece(piece):
    if not is_piece(piece):
        raise InvalidPiece(piece)


def check_pieces(pieces):
    if not isinstance(pieces, tuple) or len(pieces) == 0:
        raise InvalidPieces(None)
    for index, piece in enumerate(pieces):
        if not is_piece(piece):
            raise InvalidPieces(index)


def width_of(piece):
    """How many unknowns a piece has."""
    ports, rows = piece
    return len(rows[0]) if len(rows) > 0 else 2 * ports


def is_balanced(piece):
    """Whether the piece has as many rows as unknowns less ports."""
    check_piece(piece)
    return len(piece[1]) == width_of(piece) - piece[0]


def potential_sum(row, ports):
    """The sum of the polynomials of all potentials in a row."""
    total = ()
    for item in row[:2 * ports:2]:
        total = added(total, item)
    return total


def is_floating(piece):
    """Whether in each row the polynomials of all potentials sum to nought."""
    check_piece(piece)
    ports, rows = piece
    return all([len(potential_sum(row, ports)) == 0 for row in rows])


def is_port(value, pieces):
    """Whether a value is a pair of the index of a piece and a port of it."""
    return is_tuple(value, 2) and is_index(value[0], len(pieces)) and is_index(value[1], pieces[value[0]][0])


def is_node(value, pieces):
    """Whether a value is an ascending tuple of one or more ports."""
    if not isinstance(value, tuple) or len(value) == 0 or not all([is_port(port, pieces) for port in value]):
        return False
    return all([one < other for one, other in zip(value, value[1:])])


def are_joints_of(pieces, value):
    """Whether a value is nodes in which each port stands just once."""
    if not (isinstance(value, tuple) and all([is_node(node, pieces) for node in value])):
        return False
    told = [port for node in value for port in node]
    return len(set(told)) == len(told) and len(told) == sum([ports for ports, _ in pieces])


def are_joints(pieces, value):
    """Whether a value, whatever it is, is joints of the pieces."""
    check_pieces(pieces)
    return are_joints_of(pieces, value)


def starts_of(pieces):
    """The first unknown of each piece in what is joined, and then how many unknowns there are."""
    starts = [0]
    for piece in pieces:
        starts.append(starts[-1] + width_of(piece))
    return starts


def row_among(row, start, many):
    """A row with its entries from one unknown on, of so many unknowns."""
    return ((),) * start + row + ((),) * (many - start - len(row))


def node_rows(node, starts):
    """The equations of a node: all potentials are the same, all flows sum to nought."""
    many = starts[-1]
    potentials = [starts[piece] + 2 * port for piece, port in node]
    rows = []
    for further in potentials[1:]:
        row = [()] * many
        row[potentials[0]], row[further] = UNIT, scaled(UNIT, LESS)
        rows.append(tuple(row))
    flows = [potential + 1 for potential in potentials]
    rows.append(tuple([UNIT if unknown in flows else () for unknown in range(many)]))
    return rows


def joined(pieces, joints):
    """The model of the pieces with their ports joined in nodes."""
    check_pieces(pieces)
    if not are_joints_of(pieces, joints):
        raise InvalidJoints(joints)
    starts, rows = starts_of(pieces), []
    for start, piece in zip(starts, pieces):
        rows.extend([row_among(row, start, starts[-1]) for row in piece[1]])
    for node in joints:
        rows.extend(node_rows(node, starts))
    if len(rows) != starts[-1]:
        raise NotSquare()
    return tuple(rows)


def apart(pieces):
    """The joints in which each port stands alone."""
    check_pieces(pieces)
    return tuple([((index, port),) for index, piece in enumerate(pieces) for port in range(piece[0])])
