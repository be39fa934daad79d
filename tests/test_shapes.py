"""Promises [57], [58] and the fact of [59]: weights of cells, shape numbers, parts, tunnels and hollows."""

import unittest
from itertools import combinations

from formed import ALL, EMPTY, bounded_forms, box, is_face, lone, points_of_line, some_forms, some_lots, unit
from helping import SolidCase
from onesolid.cells import cell_dimension, cells_of
from onesolid.cuttings import euler, is_bounded
from onesolid.deeds import closed, either, inner, less, rest
from onesolid.errors import TooGreat
from onesolid.forms import form_of
from onesolid.parts import parts_of
from onesolid.shapes import cell_weights, holes_of, lot_holes, shape_number

DIMENSIONS = (1, 2, 3)
OPEN = ("gt", "lt")
SQUARE = form_of(2, box(2))
CUBE = form_of(3, box(3))
RING = less(form_of(2, box(2, 0, 3)), form_of(2, box(2, 1, 2, OPEN)))
HOLLOW = less(form_of(3, box(3, 0, 3)), form_of(3, box(3, 1, 2, OPEN)))
# A cube with a hole through it.
BLOCK = less(form_of(3, box(3, 0, 3)), form_of(3, box(2, 1, 2, OPEN)[:1] + tuple(
    ("is", word, row[:2] + (0,) + row[2:]) for _, word, row in box(2, 1, 2, OPEN)[1:])))


def weights_anew(cells):
    known = {}
    for signs in sorted(cells, key=lambda cell: cell.count(0)):
        known[signs] = 1 - sum(known[other] for other in cells if other != signs and is_face(signs, other))
    return tuple(sorted(known.items()))


def rank_of(columns):
    """How many of some sets, integers by their bits, are independent for sums."""
    pivots = {}
    for column in columns:
        while column:
            top = column.bit_length()
            if top not in pivots:
                pivots[top] = column
                break
            column ^= pivots[top]
    return len(pivots)


def chains_anew(cells):
    """C(N) - R(N) - R(N + 1) for N of 0, 1, 2, by the chains of some cells."""
    above = {signs: [other for other in cells if other != signs and is_face(signs, other)] for signs in cells}
    chains = [[(signs,) for signs in cells]]
    for _ in range(3):
        chains.append([chain + (other,) for chain in chains[-1] for other in above[chain[-1]]])
    ranks = [0]
    for length in (1, 2, 3):
        numbers = {chain: number for number, chain in enumerate(chains[length - 1])}
        ranks.append(rank_of([sum(1 << numbers[edge] for edge in combinations(chain, length))
                              for chain in chains[length]]))
    return tuple(len(chains[number]) - ranks[number] - ranks[number + 1] for number in range(3))


class Weights(SolidCase):

    def test_worked_by_hand(self):
        self.same(cell_weights(dimension=2, planes=(), cells=()), ())
        self.same(cell_weights(2, (), ((),)), (((), 1),))
        self.same(cell_weights(1, ((1, 0),), ((0,), (1,))), (((0,), 0), ((1,), 1)))
        self.same(cell_weights(1, ((1, 0),), ((-1,), (0,), (1,))), (((-1,), 1), ((0,), -1), ((1,), 1)))
        self.same(cell_weights(2, ((0, 1, 0), (1, 0, 0)), ((-1, -1), (0, -1), (0, 0))),
                  (((-1, -1), 1), ((0, -1), 0), ((0, 0), 0)))
        self.same(shape_number(dimension=1, planes=((1, 0),), cells=((-1,), (0,), (1,))), 1)
        self.same(shape_number(2, (), ()), 0)
        self.same(shape_number(2, (), ((),)), 1)
        self.same(shape_number(*RING), 0)
        self.same(shape_number(*HOLLOW), 2)
        self.same(shape_number(*BLOCK), 0)

    def test_told_anew(self):
        for dimension, many in ((1, 25), (2, 20), (3, 12)):
            for planes, cells in some_lots(dimension, many, 5, 350):
                found = cell_weights(dimension, planes, cells)
                self.same(found, weights_anew(cells))
                self.same(shape_number(dimension, planes, cells), sum(weight for _, weight in found))

    def test_of_closed_and_of_open_sets(self):
        for dimension, many in ((1, 15), (2, 10), (3, 3)):
            for form in bounded_forms(dimension, many, 351):
                try:
                    whole = closed(form)
                except TooGreat:
                    continue
                self.same(shape_number(*whole), euler(whole))
            for form in some_forms(dimension, many, 5, 352):
                try:
                    core = inner(form)
                except TooGreat:
                    continue
                self.same(shape_number(*core), euler(core) * (-1) ** dimension)

    def test_depends_on_the_set_alone(self):
        for dimension, many in ((1, 20), (2, 15), (3, 6)):
            for form in some_forms(dimension, many, 4, 353):
                plane = next(plane for plane in (unit(dimension, 0, 1), unit(dimension, 0, 9)) if plane not in form[1])
                for planes in (form[1] + (plane,), (plane,) + form[1]):
                    finer = tuple(signs for signs in cells_of(dimension, planes)
                                  if tuple(sign for own, sign in zip(planes, signs) if own != plane) in form[2])
                    self.assertEqual(shape_number(dimension, planes, finer), shape_number(*form))
                    self.same(lot_holes(dimension, planes, finer), holes_of(form))


class Holes(SolidCase):

    def test_worked_by_hand(self):
        for dimension in DIMENSIONS:
            self.same(holes_of(form=EMPTY[dimension]), (0, 0, 0))
            self.same(holes_of(ALL[dimension]), (1, 0, 0))
            self.same(lot_holes(dimension=dimension, planes=(), cells=((),)), (1, 0, 0))
            self.same(holes_of(form_of(dimension, box(dimension))), (1, 0, 0))
            self.same(holes_of(form_of(dimension, box(dimension, 0, 1, OPEN))), (1, 0, 0))
            self.same(holes_of(form_of(dimension, box(dimension, 0, 1, ("ge", "lt")))), (1, 0, 0))
        self.same(holes_of(points_of_line(range(7))), (7, 0, 0))
        self.same(holes_of(rest(points_of_line(range(7)))), (8, 0, 0))
        self.same(holes_of(RING), (1, 1, 0))
        self.same(holes_of(inner(RING)), (1, 1, 0))
        self.same(holes_of(rest(RING)), (2, 1, 0))
        self.same(holes_of(less(ALL[2], form_of(2, lone(0, 0)))), (1, 1, 0))
        self.same(holes_of(less(ALL[3], form_of(3, lone(0, 0, 0)))), (1, 0, 1))
        self.same(holes_of(HOLLOW), (1, 0, 1))
        self.same(holes_of(BLOCK), (1, 1, 0))
        self.same(holes_of(rest(BLOCK)), (1, 1, 1))
        self.same(holes_of(less(HOLLOW, form_of(3, lone(3, 3, 3)))), (1, 0, 1))
        # Space without a line, and without three lines through a point.
        axes = [form_of(3, ("and", ("is", "eq", unit(3, one)), ("is", "eq", unit(3, other))))
                for one, other in ((0, 1), (0, 2), (1, 2))]
        self.same(holes_of(rest(axes[0])), (1, 1, 0))
        self.same(holes_of(rest(either(axes[0], axes[1]))), (1, 3, 0))
        self.same(holes_of(rest(either(either(axes[0], axes[1]), axes[2]))), (1, 5, 0))
        # Two squares with a common corner, with it and without it.
        self.same(holes_of(form_of(2, ("or", box(2), box(2, 1, 2)))), (1, 0, 0))
        self.same(holes_of(form_of(2, ("or", box(2, 0, 1, OPEN), box(2, 1, 2, OPEN)))), (2, 0, 0))

    def test_by_the_parts(self):
        for dimension, many in ((1, 25), (2, 20), (3, 8)):
            for form in some_forms(dimension, many, 5, 354):
                parts, tunnels, hollows = holes_of(form)
                self.same(lot_holes(*form), (parts, tunnels, hollows))
                self.assertGreaterEqual(tunnels, 0)
                try:
                    self.assertEqual(parts, len(parts_of(form)))
                    bounded = len([part for part in parts_of(rest(form)) if is_bounded(part)])
                except TooGreat:
                    continue
                shape = shape_number(*form)
                if dimension == 1:
                    self.assertEqual((shape, tunnels, hollows), (parts, 0, 0))
                elif dimension == 2:
                    self.assertEqual((parts - tunnels, tunnels, hollows), (shape, bounded, 0))
                else:
                    self.assertEqual((tunnels, hollows), (parts + bounded - shape, bounded))

    def test_by_chains(self):
        sets = [SQUARE, inner(SQUARE), form_of(2, box(2, 0, 1, ("ge", "lt"))), RING, inner(RING), rest(RING), CUBE,
                inner(CUBE), rest(CUBE), EMPTY[2], ALL[3], points_of_line((1, 2, 5)),
                rest(form_of(3, lone(1, 2, 3))), rest(form_of(2, lone(1, 2)))]
        axes = [("and", ("is", "eq", unit(3, one)), ("is", "eq", unit(3, other))) for one,
                other in ((0, 1), (0, 2), (1, 2))]
        sets += [rest(form_of(3, axis)) for axis in (axes[0], ("or",) + tuple(axes))]
        many = 0
        for dimension in DIMENSIONS:
            sets += list(some_forms(dimension, 20, 3, 355)) + list(some_forms(dimension, 12, 4, 356))
        for form in sets:
            if len(form[2]) <= 60:
                many += 1
                self.assertEqual(chains_anew(form[2]), holes_of(form))
        self.assertGreater(many, 60)

    def test_dimensions_of_cells_above(self):
        for planes, cells in some_lots(3, 6, 4, 357):
            for signs in cells[:10]:
                for other in cells:
                    if other != signs and is_face(signs, other):
                        self.assertGreater(cell_dimension(3, planes, other), cell_dimension(3, planes, signs))


if __name__ == "__main__":
    unittest.main()
