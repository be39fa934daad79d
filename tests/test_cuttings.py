"""Promises [50] and [51]: corners of sets, cuttings into simplices, and eulers."""

import unittest
from itertools import combinations

from formed import ALL, EMPTY, bounded_forms, box, lone, points_of_line, some_forms, unit
from helping import NO_TUPLES, SolidCase, told
from making import small_points
from onesolid.cells import cell_dimension, cells_of, point_in
from onesolid.cuttings import cutting, cutting_in, euler, is_bounded, set_corners, slice_eulers, tally
from onesolid.deeds import closed, inner, less, rest
from onesolid.endless import is_cell_bounded
from onesolid.errors import Endless, Unlike
from onesolid.faces import cell_corners, cell_faces
from onesolid.forms import form_of, has_point
from onesolid.images import slice_at
from onesolid.looks import star_at
from onesolid.numbers import halfway
from onesolid.points import coordinates_of
from onesolid.rows import signs_at
from onesolid.simplices import check_simplex, in_simplex

DIMENSIONS = (1, 2, 3)
SQUARE = form_of(2, box(2))
# A square with a square hole, of which the rim belongs to it.
RING = form_of(2, ("and", box(2, 0, 3), ("not", box(2, 1, 2, ("gt", "lt")))))


def cutting_anew(dimension, planes, signs):
    """The told cutting of the closure of a bounded cell, word by word."""
    corners = cell_corners(dimension, planes, signs)
    least = corners[0]
    if cell_dimension(dimension, planes, signs) == 0:
        return {(least,)}
    found = {(least,)}
    for face in cell_faces(dimension, planes, signs):
        if least not in cell_corners(dimension, planes, face):
            for simplex in cutting_anew(dimension, planes, face):
                found.add(simplex)
                found.add(tuple(sorted(simplex + (least,))))
    return found


def signs_of_simplex(planes, simplex):
    """The signs at the points of an open simplex that lies in one cell: those that corners have at planes."""
    found = []
    for plane in zip(*[signs_at(planes, corner) for corner in simplex]):
        found.append(max(plane, key=abs))
    return tuple(found)


class Bounded(SolidCase):

    def test_worked_by_hand(self):
        for dimension in DIMENSIONS:
            self.same(is_bounded(form=EMPTY[dimension]), True)
            self.same(is_bounded(ALL[dimension]), False)
            self.same(is_bounded(form_of(dimension, lone(*range(dimension)))), True)
            self.same(is_bounded(form_of(dimension, box(dimension, 0, 1, ("gt", "lt")))), True)
            self.same(is_bounded(form_of(dimension, ("not", box(dimension)))), False)
            self.same(is_bounded(form_of(dimension, box(dimension)[:-1])), False)
        self.same(is_bounded(form_of(2, ("is", "eq", (1, 1, 0)))), False)
        self.same(is_bounded(form_of(3, ("and", ("is", "eq", (1, 0, 0, 0)), ("is", "eq", (0, 1, 0, 0)),
                                         ("is", "gt", (0, 0, 1, 0))))), False)
        self.same(is_bounded(RING), True)

    def test_no_cell_goes_on(self):
        for dimension in DIMENSIONS:
            for form in some_forms(dimension, 40, 5, 230):
                wanted = all(is_cell_bounded(dimension, form[1], signs) for signs in form[2])
                self.same(is_bounded(form), wanted)


class Corners(SolidCase):

    def test_worked_by_hand(self):
        for dimension in DIMENSIONS:
            self.same(set_corners(EMPTY[dimension]), ())
            self.same(set_corners(ALL[dimension]), ())
        self.same(set_corners(form=SQUARE), ((0, 0, 1), (0, 1, 1), (1, 0, 1), (1, 1, 1)))
        self.same(set_corners(inner(SQUARE)), set_corners(SQUARE))
        self.same(set_corners(form_of(1, box(1, 0, 5, ("gt", "lt")))), ((0, 1), (5, 1)))
        self.same(set_corners(form_of(1, ("is", "ge", (2, -1)))), ((1, 2),))
        self.same(set_corners(form_of(2, ("is", "ge", (1, 0, 0)))), ())
        # Points in which only planes of other parts meet are corners, too, if they are in the closure.
        self.assertEqual(len(set_corners(RING)), 16)
        self.same(set_corners(form_of(3, lone(1, 2, 3))), ((1, 2, 3, 1),))

    def test_told_anew(self):
        for dimension in DIMENSIONS:
            for form in some_forms(dimension, 25, 5, 231):
                wanted = []
                for signs in cells_of(dimension, form[1]):
                    if cell_dimension(dimension, form[1], signs) == 0:
                        point = point_in(dimension, form[1], signs)
                        if set(star_at(form, point)) & set(form[2]):
                            wanted.append(point)
                self.same(set_corners(form), tuple(sorted(wanted)))


class Cutting(SolidCase):

    def test_worked_by_hand(self):
        for dimension in DIMENSIONS:
            self.same(cutting(EMPTY[dimension]), ())
            self.same(tally(EMPTY[dimension]), (0,) * (dimension + 1))
            point = tuple(range(dimension)) + (1,)
            self.same(cutting(form_of(dimension, lone(*range(dimension)))), ((point,),))
            self.same(tally(form_of(dimension, lone(*range(dimension)))), (1,) + (0,) * dimension)
        self.same(cutting(form_of(1, box(1, 0, 2))), (((0, 1),), ((2, 1),), ((0, 1), (2, 1))))
        self.same(cutting(form_of(1, box(1, 0, 2, ("ge", "lt")))), (((0, 1),), ((0, 1), (2, 1))))
        a, b, c, d = (0, 0, 1), (0, 1, 1), (1, 0, 1), (1, 1, 1)
        self.same(cutting(form=SQUARE),
                  ((a,), (b,), (c,), (d,), (a, b), (a, c), (a, d), (b, d), (c, d), (a, b, d), (a, c, d)))
        self.same(cutting(inner(SQUARE)), ((a, d), (a, b, d), (a, c, d)))
        self.same(tally(form=SQUARE), (4, 5, 2))
        self.same(tally(inner(SQUARE)), (0, 1, 2))
        cube = form_of(3, box(3))
        self.same(tally(cube), (8, 19, 18, 6))
        self.same(tally(inner(cube)), (0, 1, 6, 6))
        # The least corner as Python compares: (1, -1, 2) comes ahead of (1, 1, 1).
        form = form_of(2, ("and", ("is", "ge", (2, 0, -1)), ("is", "le", (1, 0, -1)), ("is", "ge", (0, 2, 1)),
                           ("is", "le", (0, 1, -1))))
        self.same(set_corners(form), ((1, -1, 2), (1, 1, 1), (1, 2, 2), (2, -1, 2)))
        self.same(cutting(form)[-2:], (((1, -1, 2), (1, 1, 1), (1, 2, 2)), ((1, -1, 2), (1, 1, 1), (2, -1, 2))))
        self.same(cutting(points_of_line(range(60))), tuple(((k, 1),) for k in range(60)))

    def test_told_anew(self):
        for dimension, many in ((1, 12), (2, 12), (3, 5)):
            for form in bounded_forms(dimension, many, 232):
                planes, inside = form[1], set(form[2])
                told_ones = set()
                for signs in form[2]:
                    if len(cell_corners(dimension, planes, signs)) <= 8:
                        told_ones |= cutting_anew(dimension, planes, signs)
                wanted = [simplex for simplex in told_ones if signs_of_simplex(planes, simplex) in inside]
                found = cutting(form)
                if all(len(cell_corners(dimension, planes, signs)) <= 8 for signs in form[2]):
                    self.same(found, tuple(sorted(wanted, key=lambda simplex: (len(simplex), simplex))))
                else:
                    self.assertTrue(set(wanted) <= set(found))

    def test_each_point_lies_in_just_one(self):
        for dimension, many in ((1, 15), (2, 12), (3, 4)):
            for form in bounded_forms(dimension, many, 234):
                found = cutting(form)
                self.assertEqual(list(found), sorted(set(found), key=lambda simplex: (len(simplex), simplex)))
                points = small_points(dimension, 12, 235) + list(set_corners(form))[:4]
                points += [point_in(dimension, form[1], signs) for signs in form[2][:6]]
                for point in points:
                    many_of_them = [in_simplex(simplex, point) for simplex in found].count(True)
                    self.assertEqual(many_of_them, int(has_point(form, point)))
                for simplex in found[::5]:
                    check_simplex(dimension, simplex)
                    self.assertTrue(set(simplex) <= set(set_corners(form)))

    def test_in_one_cell(self):
        for dimension, many in ((1, 10), (2, 8), (3, 3)):
            for form in bounded_forms(dimension, many, 236):
                found = cutting(form)
                gathered = []
                for signs in form[2][:40]:
                    own = cutting_in(form=form, signs=signs)
                    self.same(own, tuple(simplex for simplex in found
                                         if signs_of_simplex(form[1], simplex) == signs))
                    gathered.extend(own)
                if len(form[2]) <= 40:
                    self.assertEqual(sorted(gathered), sorted(found))

    def test_faces_keep_their_own(self):
        for dimension, many in ((2, 8), (3, 3)):
            for form in bounded_forms(dimension, many, 238):
                whole = closed(form)
                if whole[1] == form[1]:
                    found = set(cutting(whole))
                    self.assertEqual([simplex for simplex in cutting(form) if simplex not in found], [])
                    for simplex in found:
                        for some in range(1, len(simplex)):
                            for part in combinations(simplex, some):
                                self.assertIn(part, found)

    def test_endless(self):
        for dimension in DIMENSIONS:
            for form in (ALL[dimension], rest(form_of(dimension, box(dimension))),
                         form_of(dimension, ("or", lone(*[0] * dimension), ("is", "gt", unit(dimension, 0, -5))))):
                self.refused(Endless, cutting, form)
                self.refused(Endless, tally, form)
        self.refused(Endless, cutting, form_of(2, ("is", "eq", (1, 1, 0))))

    def test_unlike_ahead_of_endless(self):
        form = form_of(2, ("or", box(2), ("is", "ge", (1, 0, -3))))
        bounded = [signs for signs in form[2] if is_cell_bounded(2, form[1], signs)]
        self.assertTrue(0 < len(bounded) < len(form[2]))
        for signs in form[2]:
            if signs in bounded:
                self.assertGreater(len(cutting_in(form, signs)), 0)
            else:
                self.refused(Endless, cutting_in, form, signs)
        for signs in cells_of(2, form[1]):
            if signs not in form[2]:
                self.refused(Unlike, cutting_in, form, signs)
        for value in NO_TUPLES + ((), (1,), (1, 1, 1, 1, 7), ((1, 1, 1, 1, 1),), ([],) * 5, list(form[2][0])):
            self.refused(Unlike, cutting_in, form, value)
        for value in (True, False, 1.0, 0.0, None):
            for place in range(len(form[1])):
                for signs in bounded:
                    self.refused(Unlike, cutting_in, form, signs[:place] + (value,) + signs[place + 1:])
        self.refused(Unlike, cutting_in, EMPTY[1], ())
        self.refused(Endless, cutting_in, ALL[1], ())


class Eulers(SolidCase):

    def test_worked_by_hand(self):
        for dimension in DIMENSIONS:
            self.same(euler(form=EMPTY[dimension]), 0)
            self.same(euler(ALL[dimension]), (-1) ** dimension)
            self.same(euler(form_of(dimension, lone(*range(dimension)))), 1)
            self.same(euler(form_of(dimension, box(dimension))), 1)
            self.same(euler(form_of(dimension, box(dimension, 0, 1, ("gt", "lt")))), (-1) ** dimension)
            self.same(euler(form_of(dimension, box(dimension, 0, 1, ("ge", "lt")))), 0)
            self.same(euler(form_of(dimension, ("is", "ge", unit(dimension, 0)))), 0)
        self.same(euler(RING), 0)
        self.same(euler(inner(RING)), 0)
        self.same(euler(points_of_line(range(60))), 60)
        hollow = less(form_of(3, box(3, 0, 3)), form_of(3, box(3, 1, 2, ("gt", "lt"))))
        self.same(euler(hollow), 2)

    def test_against_the_tally(self):
        for dimension, many in ((1, 20), (2, 15), (3, 6)):
            for form in bounded_forms(dimension, many, 240):
                counts = tally(form)
                found = cutting(form)
                self.same(counts, tuple(len([simplex for simplex in found if len(simplex) == own + 1])
                                        for own in range(dimension + 1)))
                self.assertEqual(euler(form), sum((-1) ** own * many for own, many in enumerate(counts)))

    def test_finer_planes_do_not_matter(self):
        for dimension in DIMENSIONS:
            for form in some_forms(dimension, 20, 4, 243):
                planes = form[1] + tuple(plane for plane in (unit(dimension, 0, 7), (1,) * dimension + (-3,))
                                         if plane not in form[1])
                places = [planes.index(plane) for plane in form[1]]
                inside = [signs for signs in cells_of(dimension, planes)
                          if tuple(signs[place] for place in places) in form[2]]
                total = sum((-1) ** cell_dimension(dimension, planes, signs) for signs in inside)
                self.assertEqual(euler(form), total)
                self.assertEqual(euler(form) + euler(rest(form)), (-1) ** dimension)


class Slices(SolidCase):

    def test_worked_by_hand(self):
        for dimension in (2, 3):
            self.same(slice_eulers(EMPTY[dimension]), ())
            self.same(slice_eulers(form_of(dimension, lone(*[5] * dimension))), (((5, 1), 1, 0),))
            self.same(slice_eulers(form_of(dimension, box(dimension))), (((0, 1), 1, 1), ((1, 1), 1, 0)))
            for words, wanted in ((("gt", "lt"), (0, (-1) ** (dimension - 1), 0)), (("ge", "lt"), (0, 0, 0))):
                at, above, over = wanted
                self.same(slice_eulers(form_of(dimension, box(dimension, 0, 1, words))),
                          (((0, 1), at, above), ((1, 1), over, 0)))
        self.same(slice_eulers(form=RING), (((0, 1), 1, 1), ((1, 1), 1, 2), ((2, 1), 1, 1), ((3, 1), 1, 0)))
        triangle = form_of(2, ("and", ("is", "ge", (1, 0, 0)), ("is", "ge", (0, 3, -1)), ("is", "le", (2, 2, -3))))
        self.same(slice_eulers(triangle), (((1, 3), 1, 1), ((3, 2), 1, 0)))

    def test_against_the_slices(self):
        for dimension, many in ((2, 15), (3, 5)):
            for form in bounded_forms(dimension, many, 244):
                found = slice_eulers(form)
                heights = sorted({coordinates_of(point)[-1] for point in set_corners(form)}, key=told)
                self.same(tuple(height for height, _, _ in found), tuple(heights))
                for number, (height, at, above) in enumerate(found):
                    following = found[number + 1][0] if number + 1 < len(found) else (height[0] + height[1], height[1])
                    self.assertEqual(at, self.euler_at(form, height))
                    self.assertEqual(above, self.euler_at(form, halfway(height, following)))
                self.assertEqual(euler(form), sum(at - above for _, at, above in found))

    def euler_at(self, form, height):
        return euler(slice_at(form, height))

    def test_endless(self):
        for dimension in (2, 3):
            for form in (ALL[dimension], form_of(dimension, ("is", "eq", unit(dimension, 0))),
                         rest(form_of(dimension, box(dimension)))):
                self.refused(Endless, slice_eulers, form)


if __name__ == "__main__":
    unittest.main()
