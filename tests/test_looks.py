"""Promise [34]: looks and depths."""

import unittest
from itertools import combinations
from random import Random

from anew import reduced, whole
from arranged import cells_anew
from formed import ALL, EMPTY, box, contains, hangs_anew, is_face, lone, look_anew, some_forms
from helping import SolidCase
from making import small_points
from onesolid.cells import point_in
from onesolid.errors import Unlike
from onesolid.forms import form_of
from onesolid.looks import depth_at, hangs_on, look_at, star_at
from onesolid.rows import signs_at

DIMENSIONS = (1, 2, 3)
# The half plane y > 0 and of its rim the points with x >= 0.
HALF = form_of(2, ("or", ("is", "gt", (0, 1, 0)), ("and", ("is", "eq", (0, 1, 0)), ("is", "ge", (1, 0, 0)))))
ORIGIN = ((1, 0, 0), (0, 1, 0))


class Stars(SolidCase):

    def test_worked_by_hand(self):
        square = form_of(2, box(2))
        self.assertEqual(square[1], ((0, 1, -1), (0, 1, 0), (1, 0, -1), (1, 0, 0)))
        self.same(star_at(square, (1, 1, 2)), ((-1, 1, -1, 1),))
        self.same(star_at(form=square, point=(0, 1, 2)), ((-1, 1, -1, -1), (-1, 1, -1, 0), (-1, 1, -1, 1)))
        self.assertEqual(len(star_at(square, (1, 1, 1))), 9)
        for dimension in DIMENSIONS:
            self.same(star_at(EMPTY[dimension], (0,) * dimension + (1,)), ((),))
            self.same(star_at(ALL[dimension], (5,) * dimension + (1,)), ((),))

    def test_told_anew(self):
        for dimension in DIMENSIONS:
            for form in some_forms(dimension, 10, 5, 70):
                cells = cells_anew(dimension, form[1])
                for point in small_points(dimension, 10, 71):
                    own = signs_at(form[1], point)
                    self.same(star_at(form, point), tuple(cell for cell in cells if is_face(own, cell)))


class Looks(SolidCase):

    def test_empty_and_whole(self):
        for dimension in DIMENSIONS:
            for form in (EMPTY[dimension], ALL[dimension]):
                point = (3,) * dimension + (2,)
                self.same(look_at(form, point), ())
                self.same(depth_at(form, point), dimension)
                self.same(hangs_on(form, point, ()), True)

    def test_a_lone_point(self):
        for dimension in DIMENSIONS:
            form = form_of(dimension, lone(*range(1, dimension + 1)))
            point = tuple(range(1, dimension + 1)) + (1,)
            self.assertEqual(len(look_at(form, point)), dimension)
            self.same(depth_at(form, point), 0)
            # On planes through it, but beside it, the set is the same all around.
            beside = (1,) + (0,) * (dimension - 1) + (1,)
            self.same(look_at(form, beside), look_at(form, point) if dimension == 1 else ())
            self.same(hangs_on(form, point, ()), False)

    def test_half_a_rim(self):
        self.same(look_at(HALF, (5, 1, 1)), ())
        self.same(look_at(HALF, (5, 0, 1)), ((0, 1, 0),))
        self.same(look_at(HALF, (-5, 0, 1)), ((0, 1, 0),))
        self.same(look_at(form=HALF, point=(0, 0, 1)), ORIGIN)
        # The line x = 0 is among the planes, but the set does not change at it.
        self.same(look_at(HALF, (0, 7, 2)), ())
        self.same([depth_at(form=HALF, point=point) for point in ((5, 1, 1), (5, 0, 1), (0, 0, 1), (0, 7, 1))],
                  [2, 1, 0, 2])
        self.same(hangs_on(HALF, (5, 0, 1), ()), False)
        self.same(hangs_on(form=HALF, point=(5, 0, 1), flat=((0, 1, 0),)), True)
        self.same(hangs_on(HALF, (0, 0, 1), ((0, 1, 0),)), False)
        self.same(hangs_on(HALF, (0, 0, 1), ((1, 0, 0),)), False)
        self.same(hangs_on(HALF, (0, 0, 1), ORIGIN), True)
        self.same(hangs_on(HALF, (0, 7, 2), ((1, 0, 0),)), True)
        self.same(hangs_on(HALF, (0, 7, 2), ()), True)

    def test_a_line_left_out_of_a_half_plane(self):
        form = form_of(3, ("and", ("is", "gt", (0, 0, 1, 0)), ("is", "ne", (1, 0, 0, 0))))
        self.same(look_at(form, (0, 5, 1, 1)), ((1, 0, 0, 0),))
        self.same(look_at(form, (0, 5, 0, 1)), ((1, 0, 0, 0), (0, 0, 1, 0)))
        self.same(look_at(form, (0, 5, -1, 1)), ())
        self.same(look_at(form, (1, 5, 0, 1)), ((0, 0, 1, 0),))
        self.same([depth_at(form, point) for point in ((0, 5, 1, 1), (0, 5, 0, 1), (0, 5, -1, 1))], [2, 1, 3])

    def test_told_anew(self):
        for dimension in DIMENSIONS:
            for form in some_forms(dimension, 25, 5, 72):
                cells = cells_anew(dimension, form[1])
                inside = set(form[2])
                for signs in cells:
                    point = point_in(dimension, form[1], signs)
                    look = look_anew(form[1], cells, inside, signs)
                    self.same(look_at(form, point), look)
                    self.same(depth_at(form, point), dimension - len(look))

    def test_hanging_told_anew(self):
        random = Random(73)
        for dimension in DIMENSIONS:
            for form in some_forms(dimension, 12, 4, 74):
                planes = form[1]
                cells = cells_anew(dimension, planes)
                for signs in random.sample(cells, min(12, len(cells))):
                    point = point_in(dimension, planes, signs)
                    look = look_at(form, point)
                    star = [cell for cell in cells if is_face(signs, cell)]
                    through = [place for place, sign in enumerate(signs) if sign == 0]
                    for many in range(len(through) + 1):
                        for lot in combinations(through, many):
                            flat = tuple(whole(row) for row in reduced([planes[place] for place in lot]))
                            used = [place for place in through if contains(planes[place], flat)]
                            wanted = hangs_anew(star, set(form[2]), used)
                            self.same(hangs_on(form, point, flat), wanted)
                            # The greatest one contains all others.
                            self.assertEqual(wanted, all(contains(row, flat) for row in look))

    def test_no_such_flat(self):
        for flat in (((1, 0, 0),), ORIGIN, ((0, 1, 1),), ((1, 1, 0),), ((1, 0, 5), (0, 1, 0))):
            self.refused(Unlike, hangs_on, HALF, (5, 0, 1), flat)
        self.refused(Unlike, hangs_on, HALF, (0, 0, 1), ((1, 1, 0),))
        self.refused(Unlike, hangs_on, HALF, (3, 4, 1), ((0, 1, 0),))
        self.refused(Unlike, hangs_on, EMPTY[1], (0, 1), ((1, 0),))

    def test_no_point(self):
        calls = (lambda value: star_at(HALF, value), lambda value: look_at(HALF, value),
                 lambda value: depth_at(HALF, value), lambda value: hangs_on(HALF, value, ((7, 7, 7),)))
        for call in calls:
            self.refuses_what_is_no_point(call)


if __name__ == "__main__":
    unittest.main()
