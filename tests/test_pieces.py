"""Points 34 and 35, and the interface of hiddenties/pieces.py."""

import unittest
from itertools import product
from random import Random

from hiddenties import pieces as module
from hiddenties.errors import InvalidJoints, InvalidPiece, InvalidPieces, NotSquare
from hiddenties.models import free_starts, is_model, is_solvable
from hiddenties.pieces import apart, are_joints, is_balanced, is_floating, is_piece, joined
from tests import makers, oracles, wrongs
from tests.helps import Case, raised_by
from tests.makers import LESS, NIL, S, SS, TWO, UNIT

MINUS = (LESS,)
COIL = (2, ((UNIT, (), MINUS, S), ((), UNIT, (), UNIT)))
WIRE = (2, ((UNIT, (), MINUS, ()), ((), UNIT, (), UNIT)))
GROUND = (1, ((UNIT, ()),))
OPEN = (1, ())
# A weight: its flow is the growth of its own unknown, the growth of which is its potential.
WEIGHT = (1, ((UNIT, (), (NIL, LESS)), ((), UNIT, (NIL, NIL, LESS))))
ON_PIECE, ON_PIECES = (is_balanced, is_floating), (are_joints, joined, apart)


def some_piece(source, balanced=True, floating=False):
    ports = source.randint(1, 2)
    width = 2 * ports + source.randint(0, 2)
    many = width - ports if balanced else source.randint(0, width)
    rows = tuple(makers.some_row(source, width, 1, 5) for _ in range(many))
    return (ports, tuple(floated(row, ports) for row in rows) if floating else rows)


def floated(row, ports):
    """The row with such a polynomial at the first potential that those of all potentials sum to nought."""
    rest = []
    for item in row[2:2 * ports:2]:
        rest = oracles.plus(rest, oracles.numbers_of(item))
    return (oracles.polynomial_of([-number for number in rest]),) + row[1:]


def ports_of(pieces):
    return [(index, port) for index, piece in enumerate(pieces) for port in range(piece[0])]


def some_joints(source, pieces):
    """All ports in nodes of any sizes, in any order."""
    ports, nodes = ports_of(pieces), []
    source.shuffle(ports)
    while ports:
        size = min(len(ports), source.randint(1, 3))
        nodes.append(tuple(sorted(ports[:size])))
        ports = ports[size:]
    return tuple(nodes)


def some_pieces(source, balanced=True, floating=False):
    return tuple(some_piece(source, balanced, floating) for _ in range(source.randint(1, 3)))


def wide(piece):
    ports, rows = piece
    return len(rows[0]) if rows else 2 * ports


def joined_by_words(pieces, joints):
    """The equations of point 34 as lists of dicts, then spread over all unknowns."""
    before, equations = [sum(wide(piece) for piece in pieces[:k]) for k in range(len(pieces))], []
    for start, (_, rows) in zip(before, pieces):
        for row in rows:
            equations.append({start + k: item for k, item in enumerate(row)})
    for node in joints:
        potentials = [before[index] + 2 * port for index, port in node]
        for other in potentials[1:]:
            equations.append({potentials[0]: UNIT, other: MINUS})
        equations.append({potential + 1: UNIT for potential in potentials})
    many = sum(wide(piece) for piece in pieces)
    return tuple(tuple(equation.get(k, ()) for k in range(many)) for equation in equations), many


class PieceTest(Case):
    def test_pieces(self):
        source = Random(241)
        pieces = [some_piece(source, source.randrange(2) == 0) for _ in range(60)]
        for piece in pieces + [COIL, WIRE, GROUND, OPEN, WEIGHT, (3, ()), (10 ** 300, ()), (1, (((), ()),) * 9)]:
            self.assertIs(is_piece(piece), True)
            self.assertIs(is_piece(list(piece)), False)
            self.assertIs(is_piece((piece[0], list(piece[1]))), False)
            self.assertIs(is_piece(piece + ((),)), False)

    def test_other_values(self):
        for wrong in wrongs.no_pieces():
            self.assertIs(is_piece(wrong), False)

    def test_widths(self):
        for ports, width in product(range(1, 5), range(1, 9)):
            for many in (1, 2):
                self.assertIs(is_piece((ports, (((),) * width,) * many)), width >= 2 * ports)

    def test_balanced(self):
        source, found = Random(242), {}
        for _ in range(80):
            piece = some_piece(source, source.randrange(2) == 0)
            wanted = len(piece[1]) == wide(piece) - piece[0]
            self.assertIs(is_balanced(piece), wanted)
            found[wanted] = True
        self.assertEqual(len(found), 2)

    def test_floating(self):
        source, found = Random(243), {}
        for _ in range(120):
            piece = some_piece(source, True, source.randrange(2) == 0)
            sums = []
            for row in piece[1]:
                total = []
                for item in row[:2 * piece[0]:2]:
                    total = oracles.plus(total, oracles.numbers_of(item))
                sums.append(total)
            wanted = not any(sums)
            self.assertIs(is_floating(piece), wanted, piece)
            found[wanted, piece[0]] = True
        self.assertEqual(len(found), 4)

    def test_pieces_without_rows(self):
        for ports in (1, 2, 4):
            self.assertIs(is_balanced((ports, ())), False)
            self.assertIs(is_floating((ports, ())), True)

    def test_by_hand(self):
        self.assertIs(is_balanced(WEIGHT), True)
        self.assertIs(is_floating(WEIGHT), False)
        # Potentials alone count, neither flows nor the piece's own unknowns.
        self.assertIs(is_floating((1, (((), S, UNIT),))), True)
        self.assertIs(is_floating((2, ((S, (), (NIL, LESS), UNIT, UNIT),))), True)
        self.assertIs(is_floating((2, ((S, (), (NIL, LESS), ()), (UNIT, (), UNIT, ())))), False)
        self.assertIs(is_floating((2, ((S, (), (NIL, NIL, LESS), ()),))), False)
        self.assertIs(is_floating((3, ((UNIT, (), UNIT, S, ((-2, 1),), SS),))), True)
        self.assertIs(is_floating((3, ((UNIT, (), UNIT, S, (), (LESS, LESS), ((-2, 1),)),))), False)


class JointsTest(Case):
    def test_right_ones(self):
        source = Random(244)
        for _ in range(60):
            pieces = some_pieces(source, source.randrange(2) == 0)
            joints = some_joints(source, pieces)
            self.assertIs(are_joints(pieces, joints), True)
            self.assertIs(are_joints(pieces, joints[::-1]), True)
            self.assertIs(are_joints(pieces, (tuple(ports_of(pieces)),)), True)
            told = apart(pieces)
            self.check_equal(told, tuple((port,) for port in ports_of(pieces)))
            self.assertIs(are_joints(pieces, told), True)

    def test_wrong_ones(self):
        for pieces, wrong in wrong_joints():
            self.assertIs(are_joints(pieces, wrong), False, wrong)


def wrong_joints():
    """Pairs of pieces and of what are no joints of them."""
    source = Random(245)
    found = [(pieces, wrong) for pieces in ((GROUND,), (COIL, GROUND)) for wrong in wrongs.anything()]
    for pieces in [(GROUND,), (COIL,), (COIL, GROUND), (WIRE, OPEN, COIL)] + [some_pieces(source) for _ in range(6)]:
        joints = some_joints(source, pieces)
        ports = tuple(ports_of(pieces))
        last, (index, port) = len(pieces), ports[-1]
        some = [
            list(joints), (list(joints[0]),) + joints[1:], joints[1:], joints[:-1], joints + ((),), ((),) + joints,
            joints + (joints[0],), joints + ((ports[0],),), joints + (((last, 0),),), joints + (((0, 99),),),
            joints + (((-1, 0),),), joints + (((0, -1),),), (ports + (ports[-1],),), joints[0], ports, (ports, ports),
            ((list(ports[0]),) + ports[1:],), (ports[:-1] + ((index, port, 0),),), (ports[:-1] + ((index,),),),
            (ports[:-1] + ((index, str(port)),),), (ports[:-1] + ((index, None),),), (ports[:-1] + (index,),),
            (ports[:-1] + ((index, bool(port)),),), (ports[:-1] + ((bool(index), port),),), (ports[:-1] + (None,),),
            (ports[:-1] + ((index, port + 1),),), (ports[:-1],) if ports[:-1] else (), (ports[:-1] + (wrongs.Touchy(),),),
        ]
        if len(ports) > 1:
            some += [(ports[::-1],), ((ports[1], ports[0]),) + tuple((told,) for told in ports[2:])]
            some += [(ports[:1] + ports,), (ports[1:],)]
            # One port stands in two nodes and another one nowhere, so the numbers are right.
            some += [tuple((told,) for told in ports[:-1]) + ((ports[0],),), (ports[:-1], ports[:1])]
        found += [(pieces, wrong) for wrong in some]
    return found


class JoinedTest(Case):
    def check_joined(self, pieces, joints):
        """What is joined, or that it is not square; it is square exactly if the numbers of all pieces say so."""
        equations, many = joined_by_words(pieces, joints)
        square = sum(len(piece[1]) for piece in pieces) == many - sum(piece[0] for piece in pieces)
        self.assertEqual(square, len(equations) == many)
        if not square:
            self.check_error(NotSquare, joined, pieces, joints)
            return None
        model = joined(pieces, joints)
        self.check_equal(model, equations)
        self.assertIs(is_model(model), True)
        return model

    def test_balanced_pieces(self):
        source, found = Random(246), {}
        for _ in range(80):
            pieces = some_pieces(source)
            for joints in (some_joints(source, pieces), apart(pieces), (tuple(ports_of(pieces)),)):
                found[is_solvable(self.check_joined(pieces, joints))] = True
        self.assertEqual(len(found), 2)

    def test_any_pieces(self):
        source, found = Random(247), {}
        for _ in range(150):
            pieces = some_pieces(source, False)
            model = self.check_joined(pieces, some_joints(source, pieces))
            found[model is None, all(is_balanced(piece) for piece in pieces)] = True
        # Pieces that are not balanced may make up for one another.
        self.assertTrue({(False, False), (False, True), (True, False)} <= set(found))
        self.assertNotIn((True, True), found)

    def test_copies_of_pieces(self):
        """For all lots of copies of a piece it is square exactly if the piece is balanced."""
        source = Random(248)
        for _ in range(30):
            piece = some_piece(source, source.randrange(2) == 0)
            for many in (1, 2, 3):
                pieces = (piece,) * many
                model = self.check_joined(pieces, some_joints(source, pieces))
                self.assertEqual(model is not None, is_balanced(piece))

    def test_floating_pieces(self):
        """Alone they are never solvable; with a piece that does not float some are."""
        source, found = Random(249), {}
        for _ in range(80):
            pieces = some_pieces(source, True, True)
            self.assertTrue(all(is_floating(piece) for piece in pieces))
            self.assertIs(is_solvable(self.check_joined(pieces, some_joints(source, pieces))), False)
            grounded = pieces + (GROUND,)
            found[is_solvable(joined(grounded, some_joints(source, grounded)))] = True
        self.assertEqual(len(found), 2)

    def test_orders_of_rows(self):
        """All rows of all pieces; for each node its potentials, then its flows."""
        coil = (COIL[1][0] + ((),) * 2, COIL[1][1] + ((),) * 2)
        self.check_equal(joined((COIL, GROUND), (((0, 1), (1, 0)), ((0, 0),))), coil + (
            ((),) * 4 + (UNIT, ()),
            ((), (), UNIT, (), MINUS, ()),
            ((), (), (), UNIT, (), UNIT),
            ((), UNIT, (), (), (), ()),
        ))
        self.check_equal(joined((COIL, GROUND), (((0, 0),), ((0, 1), (1, 0)))), coil + (
            ((),) * 4 + (UNIT, ()),
            ((), UNIT, (), (), (), ()),
            ((), (), UNIT, (), MINUS, ()),
            ((), (), (), UNIT, (), UNIT),
        ))
        self.check_equal(joined((COIL, GROUND), (((0, 0), (0, 1), (1, 0)),)), coil + (
            ((),) * 4 + (UNIT, ()),
            (UNIT, (), MINUS, (), (), ()),
            (UNIT, (), (), (), MINUS, ()),
            ((), UNIT, (), UNIT, (), UNIT),
        ))

    def test_own_unknowns(self):
        """Behind the unknowns of its ports a piece has its own; the next piece begins behind them."""
        self.check_equal(joined((WEIGHT, GROUND), (((0, 0),), ((1, 0),))), (
            (UNIT, (), (NIL, LESS), (), ()),
            ((), UNIT, (NIL, NIL, LESS), (), ()),
            ((), (), (), UNIT, ()),
            ((), UNIT, (), (), ()),
            ((), (), (), (), UNIT),
        ))
        self.assertEqual(free_starts(joined((WEIGHT,), (((0, 0),),))), 2)

    def test_not_square(self):
        for pieces in ((OPEN,), (OPEN, GROUND), (COIL, OPEN), ((1, (((), ()),) * 2),), (GROUND, (1, ((UNIT, ()),) * 3))):
            self.check_error(NotSquare, joined, pieces, apart(pieces))
            self.check_error(NotSquare, joined, joints=(tuple(ports_of(pieces)),), pieces=pieces)
        # A row too many and a row too few.
        pair = (OPEN, (1, ((UNIT, ()), ((), TWO))))
        self.check_equal(joined(pair, apart(pair)), (
            ((), (), UNIT, ()), ((), (), (), TWO), ((), UNIT, (), ()), ((), (), (), UNIT),
        ))

    def test_by_hand(self):
        self.assertIs(is_solvable(joined((COIL, GROUND), apart((COIL, GROUND)))), False)
        self.assertEqual(free_starts(joined((COIL, GROUND, GROUND), (((0, 0), (1, 0)), ((0, 1), (2, 0))))), 1)
        self.assertIs(is_solvable(joined((WIRE, GROUND, GROUND), (((0, 0), (1, 0)), ((0, 1), (2, 0))))), False)
        # A weight on a coil: the potential is the growth of the weight's own unknown.
        pieces = (WEIGHT, COIL, GROUND)
        self.assertEqual(free_starts(joined(pieces, (((0, 0), (1, 0)), ((1, 1), (2, 0))))), 3)

    def test_six_pieces_with_eight_unknowns(self):
        source = Random(250)
        piece = (2, tuple(
            tuple(makers.some_polynomial(source, 1) if k in (at, at + 2) else () for k in range(8)) for at in range(6)
        ))
        pieces = (piece,) * 6
        nodes = tuple(((k, 1), (k + 1, 0)) for k in range(5)) + (((0, 0),), ((5, 1),))
        self.assertEqual(len(self.check_joined(pieces, nodes)), 48)


class ArgumentsTest(Case):
    def test_names(self):
        self.check_right(is_piece, {"value": COIL}, module)
        for call in ON_PIECE:
            self.check_right(call, {"piece": COIL}, module)
        joints = (((0, 0), (0, 1), (1, 0)),)
        self.check_right(are_joints, {"pieces": (COIL, GROUND), "value": joints}, module)
        self.check_right(joined, {"pieces": (COIL, GROUND), "joints": joints}, module)
        self.check_right(apart, {"pieces": (COIL, GROUND)}, module)

    def test_wrong_piece(self):
        for call in ON_PIECE:
            for wrong in wrongs.no_pieces():
                self.check_given(InvalidPiece, wrong, call, wrong)
                self.check_given(InvalidPiece, wrong, call, piece=wrong)

    def test_wrong_pieces(self):
        found = [(value, None) for value in wrongs.no_tuples() + [(), [COIL], {0: COIL}]]
        for wrong in wrongs.no_pieces():
            found += [((wrong,), 0), ((COIL, wrong), 1), ((wrong, wrong), 0), ((GROUND, COIL, wrong, None), 2)]
        for value, index in found:
            self.check_index(InvalidPieces, index, apart, value)
            for joints in ((((0, 0), (0, 1)),), None):
                self.check_index(InvalidPieces, index, are_joints, value, joints)
                self.check_index(InvalidPieces, index, joined, value, joints)

    def test_wrong_joints(self):
        for pieces, wrong in wrong_joints():
            self.check_given(InvalidJoints, wrong, joined, pieces, wrong)
        # What is not square is told last.
        self.check_given(InvalidJoints, (), joined, (OPEN,), ())

    def test_turns(self):
        self.check_turns(joined, {"pieces": (COIL, GROUND), "joints": (((0, 0), (0, 1), (1, 0)),)}, {
            "pieces": [((), InvalidPieces, (None,)), ((COIL, None), InvalidPieces, (1,))],
            "joints": [((), InvalidJoints, ((),)), (None, InvalidJoints, (None,))],
        }, [({"pieces": (COIL, OPEN)}, NotSquare), ({"pieces": (OPEN, COIL), "joints": apart((OPEN, COIL))}, NotSquare)])

    def test_what_is_asked_of_any_value(self):
        for wrong in wrongs.anything():
            self.assertIsNone(raised_by(is_piece, wrong))
            self.assertIsNone(raised_by(are_joints, (COIL,), wrong))


if __name__ == "__main__":
    unittest.main()
