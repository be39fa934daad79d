"""Promise [60]: solids, their rims, where they touch themselves, and handles."""

import unittest
from random import Random

from formed import ALL, EMPTY, bounded_forms, box, is_face, lone, points_of_line
from helping import SolidCase
from onesolid.cells import cell_dimension, cells_of
from onesolid.deeds import any_of, closed, either, inner, less, regular, rest, rim
from onesolid.errors import Empty, Endless, Flat, NotForm, TooGreat, Unlike
from onesolid.forms import form_of
from onesolid.parts import lot_parts, parts_of
from onesolid.rims import check_solid, handles_of, pinches, rim_cells
from onesolid.shapes import holes_of

OPEN = ("gt", "lt")
SQUARE = form_of(2, box(2))
CUBE = form_of(3, box(3))
RING = less(form_of(2, box(2, 0, 3)), form_of(2, box(2, 1, 2, OPEN)))
HOLLOW = less(form_of(3, box(3, 0, 3)), form_of(3, box(3, 1, 2, OPEN)))
CALLS = (check_solid, rim_cells, pinches, handles_of)


def block(lows, highs):
    """A closed box of space."""
    parts = []
    for place, (low, high) in enumerate(zip(lows, highs)):
        own = tuple(int(place == other) for other in range(3))
        parts += [("is", "ge", own + (-low,)), ("is", "le", own + (-high,))]
    return form_of(3, ("and",) + tuple(parts))


# A block with a hole through it, and with two.
TUNNEL = regular(less(block((0, 0, 0), (3, 3, 3)), block((1, 1, 0), (2, 2, 3))))
TWO = regular(less(less(block((0, 0, 0), (5, 3, 3)), block((1, 1, 0), (2, 2, 3))), block((3, 1, 0), (4, 2, 3))))
# A hole through a block, and a hollow in it.
MIXED = regular(less(less(block((0, 0, 0), (5, 3, 3)), block((1, 1, 0), (2, 2, 3))), block((3, 1, 1), (4, 2, 2))))


class CheckSolid(SolidCase):

    def test_solids(self):
        for form in (SQUARE, CUBE, RING, HOLLOW, TUNNEL, TWO, form_of(2, ("or", box(2), box(2, 1, 2))),
                     form_of(2, ("or", box(2), box(2, 5, 6)))):
            self.assertIs(check_solid(form=form), form)

    def test_refusals(self):
        for call in CALLS:
            for form in (EMPTY[1], ALL[1], form_of(1, box(1)), points_of_line((1, 2))):
                self.refused(Unlike, call, form)
            for dimension in (2, 3):
                self.refused(Empty, call, EMPTY[dimension])
                square = form_of(dimension, box(dimension))
                # Neither bounded nor the closure of the interior.
                for form in (ALL[dimension], rest(square), rest(form_of(dimension, lone(*[0] * dimension))),
                             form_of(dimension, ("is", "eq", (1,) * dimension + (0,)))):
                    self.refused(Endless, call, form)
                for form in (inner(square), form_of(dimension, lone(*[0] * dimension)), rim(square),
                             either(square, form_of(dimension, lone(*[7] * dimension))),
                             less(square, form_of(dimension, lone(*[0] * dimension))),
                             form_of(dimension, box(dimension, 0, 1, ("ge", "lt")))):
                    self.refused(Flat, call, form)

    def test_against_regular(self):
        for dimension, many in ((2, 20), (3, 8)):
            for form in bounded_forms(dimension, many, 360):
                try:
                    core = regular(form)
                except TooGreat:
                    continue
                if form[2] == ():
                    self.refused(Empty, check_solid, form)
                elif core == form:
                    self.assertIs(check_solid(form), form)
                else:
                    self.refused(Flat, check_solid, form)


class Rims(SolidCase):

    def solids(self):
        yield from (SQUARE, CUBE, RING, HOLLOW, TUNNEL, MIXED)
        for dimension, many in ((2, 10), (3, 3)):
            for form in bounded_forms(dimension, many, 361):
                try:
                    core = regular(form)
                except TooGreat:
                    continue
                if core[2]:
                    yield core

    def test_worked_by_hand(self):
        self.assertEqual(len(rim_cells(form=SQUARE)), 8)
        self.assertEqual(len(rim_cells(CUBE)), 26)
        self.same(rim_cells(SQUARE), tuple(signs for signs in SQUARE[2] if 0 in signs))
        self.same(pinches(form=SQUARE), ())
        self.same(pinches(RING), ())
        self.same(pinches(HOLLOW), ())

    def test_facts(self):
        many = 0
        random = Random(362)
        for form in self.solids():
            many += 1
            dimension, planes, cells = form
            whole = cells_of(dimension, planes)
            found = rim_cells(form)
            # The rim of a solid has the same planes.
            self.same((dimension, planes, found), rim(form))
            full = [signs for signs in whole if 0 not in signs]
            inside = [signs for signs in full if signs in cells]
            outside = [signs for signs in full if signs not in cells]
            for signs in random.sample(whole, min(150, len(whole))):
                shared = any(is_face(signs, own) for own in inside) and any(is_face(signs, own) for own in outside)
                self.assertEqual(signs in found, shared)
            wanted = pinches(form)
            for signs in random.sample(found, min(80, len(found))):
                self.assertEqual(signs in wanted, self.is_pinch(planes, whole, cells, signs))
                if cell_dimension(dimension, planes, signs) == dimension - 2:
                    walls = [own for own in found if is_face(signs, own)
                             and cell_dimension(dimension, planes, own) == dimension - 1]
                    self.assertEqual(len(walls) % 2, 0)
                    self.assertEqual(len(walls) == 2, signs not in wanted)
            if not wanted:
                parts, tunnels, hollows = holes_of(form)
                self.assertEqual(len(parts_of(rim(form))), parts + (hollows if dimension == 3 else tunnels))
                if dimension == 3:
                    handles = handles_of(form)
                    self.assertEqual(len(handles), len(parts_of(rim(form))))
                    self.assertGreaterEqual(min(handles), 0)
                    self.assertEqual(sum(handles), tunnels)
        self.assertGreater(many, 12)

    def is_pinch(self, planes, whole, cells, signs):
        above = [own for own in whole if own != signs and is_face(signs, own)]
        own = tuple(other for other in above if other in cells)
        others = tuple(other for other in above if other not in cells)
        return max(len(lot_parts(len(planes[0]) - 1, planes, lot)) for lot in (own, others)) > 1

    def test_pinches(self):
        cornered = form_of(2, ("or", box(2), box(2, 1, 2)))
        found = pinches(cornered)
        self.assertEqual(len(found), 1)
        self.assertEqual(cell_dimension(2, cornered[1], found[0]), 0)
        # Two cubes with a common corner, with a common edge; a hollow that touches the outside at an edge.
        touching = form_of(3, ("or", box(3), box(3, 1, 2)))
        self.assertEqual(len(pinches(touching)), 1)
        beside = either(block((0, 0, 0), (1, 1, 1)), block((1, 1, 0), (2, 2, 1)))
        self.assertEqual(len(pinches(beside)), 1)
        bitten = regular(less(block((0, 0, 0), (3, 3, 3)), any_of(3, (block((0, 0, 0), (1, 1, 1)),
                                                                      block((1, 1, 1), (2, 2, 2))))))
        self.assertEqual(len(pinches(bitten)), 1)
        for form in (touching, beside, bitten):
            self.refused(NotForm, handles_of, form, word="surface")

    def test_handles_worked_by_hand(self):
        self.same(handles_of(form=CUBE), (0,))
        self.same(handles_of(HOLLOW), (0, 0))
        self.same(handles_of(TUNNEL), (1,))
        self.same(handles_of(TWO), (2,))
        self.same(handles_of(MIXED), (1, 0))
        self.same(handles_of(form_of(3, ("or", box(3), box(3, 2, 4)))), (0, 0))
        apart = either(TUNNEL, block((-9, -9, -9), (-8, -8, -8)))
        self.same(handles_of(apart), (0, 1))
        apart = either(TUNNEL, block((8, 8, 8), (9, 9, 9)))
        self.same(handles_of(apart), (1, 0))

    def test_handles_of_the_parts_in_their_order(self):
        self.same(closed(MIXED), MIXED)
        for form in (HOLLOW, TUNNEL, TWO, either(TUNNEL, block((8, 8, 8), (9, 9, 9)))):
            found = []
            for part in parts_of(rim(form)):
                total = sum((-1) ** cell_dimension(3, part[1], signs) for signs in part[2])
                found.append(1 - total // 2)
            self.same(handles_of(form), tuple(found))

    def test_handles_are_refused_in_the_plane(self):
        for form in (SQUARE, RING, form_of(2, ("or", box(2), box(2, 1, 2)))):
            self.refused(Unlike, handles_of, form)


if __name__ == "__main__":
    unittest.main()
