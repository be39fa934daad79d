"""Promises [28] and [29]: faces, walls, stars and corners of cells, and the cells along a segment."""

import unittest
from fractions import Fraction
from random import Random

from arranged import SPECIAL, some_arrangements
from helping import BIG, SolidCase, numbers_at, worth
from making import small_points
from onesolid.cells import cell_dimension, cells_of, point_in
from onesolid.faces import cell_corners, cell_faces, cell_star, step_through, toward, wall_cells
from onesolid.flats import flat_point, flat_of
from onesolid.rows import signs_at

DIMENSIONS = (1, 2, 3)
LINES = ((1, 0, 0), (0, 1, 0), (1, 1, -1))


def arrangements(dimension, many, most, seed):
    yield from SPECIAL[dimension]
    yield from some_arrangements(dimension, many, most, seed)


def is_face(signs, other):
    """Whether the signs come from the other ones by making some 0."""
    return all(sign in (0, own) for sign, own in zip(signs, other))


class Faces(SolidCase):

    def test_worked_by_hand(self):
        # The triangle, its sides without their ends, and its corners.
        self.same(cell_faces(2, LINES, (1, 1, -1)),
                  ((0, 0, -1), (0, 1, -1), (0, 1, 0), (1, 0, -1), (1, 0, 0), (1, 1, -1), (1, 1, 0)))
        self.same(wall_cells(2, LINES, (1, 1, -1)), ((0, 1, -1), (1, 0, -1), (1, 1, 0)))
        self.same(cell_corners(2, LINES, (1, 1, -1)), ((0, 0, 1), (0, 1, 1), (1, 0, 1)))
        self.same(cell_star(2, LINES, (1, 1, -1)), ((1, 1, -1),))
        self.same(cell_star(2, LINES, (0, 1, -1)), ((-1, 1, -1), (0, 1, -1), (1, 1, -1)))
        self.assertEqual(len(cell_star(2, LINES, (0, 0, -1))), 9)
        self.same(cell_faces(2, LINES, (0, 0, -1)), ((0, 0, -1),))
        self.same(wall_cells(2, LINES, (0, 0, -1)), ())
        self.same(cell_corners(2, LINES, (0, 0, -1)), ((0, 0, 1),))
        self.same(cell_faces(2, LINES, (-1, 0, -1)), ((-1, 0, -1), (0, 0, -1)))
        self.same(wall_cells(2, LINES, (-1, 0, -1)), ((0, 0, -1),))
        self.same(cell_corners(dimension=2, planes=LINES, signs=(-1, -1, -1)), ((0, 0, 1),))
        # A plane that touches a cell at a corner alone gives no wall.
        self.same(wall_cells(2, LINES[:2] + ((1, 1, 0),), (1, 1, 1)), ((0, 1, 1), (1, 0, 1)))
        self.same(cell_faces(2, LINES[:2] + ((1, 1, 0),), (1, 1, 1)), ((0, 0, 0), (0, 1, 1), (1, 0, 1), (1, 1, 1)))

    def test_no_planes(self):
        for dimension in DIMENSIONS:
            self.same(cell_faces(dimension, (), ()), ((),))
            self.same(wall_cells(dimension, (), ()), ())
            self.same(cell_star(dimension, (), ()), ((),))
            self.same(cell_corners(dimension, (), ()), ())

    def test_parallel_planes(self):
        planes = ((1, 1, 0), (1, 1, 1))
        self.same(cell_faces(2, planes, (-1, 1)), ((-1, 0), (-1, 1), (0, 1)))
        self.same(wall_cells(2, planes, (-1, 1)), ((-1, 0), (0, 1)))
        self.same(cell_corners(2, planes, (-1, 1)), ())
        self.same(cell_corners(2, planes, (0, 1)), ())

    def test_corner_of_fractions(self):
        self.same(cell_corners(1, ((3, -2), (5, 1)), (-1, 1)), ((-1, 5), (2, 3)))
        self.same(cell_corners(1, ((BIG, -1),), (1,)), ((1, BIG),))
        self.same(cell_corners(3, ((1, 1, 0, -1), (1, -1, 0, 0), (0, 0, 3, 1)), (1, 0, -1)), ((3, 3, -2, 6),))

    def test_told_anew(self):
        for dimension in DIMENSIONS:
            for planes in arrangements(dimension, 12, 6, 20):
                found = cells_of(dimension, planes)
                own = {signs: cell_dimension(dimension, planes, signs) for signs in found}
                for signs in found:
                    below = tuple(other for other in found if is_face(other, signs))
                    self.same(cell_faces(dimension=dimension, planes=planes, signs=signs), below)
                    self.same(wall_cells(dimension=dimension, planes=planes, signs=signs),
                              tuple(other for other in below if own[other] == own[signs] - 1))
                    self.same(cell_star(dimension=dimension, planes=planes, signs=signs),
                              tuple(other for other in found if is_face(signs, other)))
                    self.same(cell_corners(dimension, planes, signs), self.corners_anew(dimension, planes, below, own))

    def corners_anew(self, dimension, planes, below, own):
        points = []
        for signs in below:
            if own[signs] == 0:
                flat = flat_of(dimension, [plane for plane, sign in zip(planes, signs) if sign == 0])
                points.append(flat_point(dimension, flat))
        return tuple(sorted(points))

    def test_walls_and_their_sides(self):
        for dimension in DIMENSIONS:
            for planes in arrangements(dimension, 8, 6, 21):
                found = cells_of(dimension, planes)
                full = [signs for signs in found if 0 not in signs]
                sides = {signs: wall_cells(dimension, planes, signs) for signs in full}
                for signs in found:
                    self.assertTrue(set(cell_star(dimension, planes, signs)) & set(full))
                    if signs.count(0) == 1:
                        place = signs.index(0)
                        wanted = [signs[:place] + (sign,) + signs[place + 1:] for sign in (-1, 1)]
                        self.assertEqual([cell for cell in full if signs in sides[cell]], wanted)
                if planes:
                    self.assertTrue(all(sides.values()))

    def test_many_planes(self):
        planes = tuple((1, k, k * k, k ** 3) for k in range(16))
        found = cells_of(3, planes)
        for signs in found[::200]:
            below = cell_faces(3, planes, signs)
            self.same(below, tuple(other for other in found if is_face(other, signs)))


class Toward(SolidCase):

    def test_worked_by_hand(self):
        self.same(toward((), ()), ())
        self.same(toward((0, 0, 0, 1, 1, 1, -1, -1, -1), (-1, 0, 1, -1, 0, 1, -1, 0, 1)),
                  (-1, 0, 1, 1, 1, 1, -1, -1, -1))
        self.same(toward(signs=(0, 1), other=(-1, -1)), (-1, 1))

    def test_it_is_where_a_segment_begins(self):
        for dimension in DIMENSIONS:
            for planes in arrangements(dimension, 10, 5, 22):
                found = cells_of(dimension, planes)
                for signs in found[::3]:
                    star = cell_star(dimension, planes, signs)
                    for other in found[::4]:
                        one, two = point_in(dimension, planes, signs), point_in(dimension, planes, other)
                        way = step_through(dimension, planes, one, two)
                        self.assertIn(toward(signs, other), star)
                        self.same(way[0], signs)
                        self.same(way[-1], other)
                        if toward(signs, other) != signs:
                            self.same(way[1], toward(signs, other))


class StepThrough(SolidCase):

    def test_worked_by_hand(self):
        self.same(step_through(1, ((1, 0), (1, -1)), (-1, 1), (2, 1)), ((-1, -1), (0, -1), (1, -1), (1, 0), (1, 1)))
        self.same(step_through(1, ((1, 0), (1, -1)), (2, 1), (-1, 1)), ((1, 1), (1, 0), (1, -1), (0, -1), (-1, -1)))
        self.same(step_through(dimension=2, planes=LINES, point=(-1, -1, 1), other=(2, 2, 1)),
                  ((-1, -1, -1), (0, 0, -1), (1, 1, -1), (1, 1, 0), (1, 1, 1)))
        self.same(step_through(2, LINES, (2, 2, 1), (-1, -1, 1)),
                  ((1, 1, 1), (1, 1, 0), (1, 1, -1), (0, 0, -1), (-1, -1, -1)))

    def test_no_planes(self):
        self.same(step_through(2, (), (0, 0, 1), (5, 5, 1)), ((),))

    def test_one_point(self):
        self.same(step_through(2, LINES, (1, 1, 3), (1, 1, 3)), ((1, 1, -1),))
        self.same(step_through(2, LINES, (0, 0, 1), (0, 0, 1)), ((0, 0, -1),))

    def test_within_one_cell(self):
        self.same(step_through(2, LINES, (1, 1, 3), (1, 1, 4)), ((1, 1, -1),))

    def test_within_a_plane(self):
        self.same(step_through(2, LINES, (0, -1, 1), (0, 3, 1)),
                  ((0, -1, -1), (0, 0, -1), (0, 1, -1), (0, 1, 0), (0, 1, 1)))
        self.same(step_through(2, LINES, (0, 1, 4), (0, 3, 4)), ((0, 1, -1),))

    def test_an_end_on_a_plane(self):
        self.same(step_through(2, LINES, (0, 1, 4), (1, 1, 4)), ((0, 1, -1), (1, 1, -1)))
        self.same(step_through(2, LINES, (1, 1, 4), (0, 1, 4)), ((1, 1, -1), (0, 1, -1)))
        self.same(step_through(2, LINES, (0, 0, 1), (1, 0, 1)), ((0, 0, -1), (1, 0, -1), (1, 0, 0)))
        self.same(step_through(2, LINES, (0, 1, 2), (1, 0, 2)), ((0, 1, -1), (1, 1, -1), (1, 0, -1)))
        # Both ends on the plane, and all between.
        self.same(step_through(2, LINES, (1, 1, 2), (1, 3, 4)), ((1, 1, 0),))

    def test_told_anew_and_back(self):
        random = Random(23)
        for dimension in DIMENSIONS:
            points = small_points(dimension, 30, 24)
            for planes in arrangements(dimension, 20, 8, 25):
                for _ in range(8):
                    one, two = random.choice(points), random.choice(points)
                    way = step_through(dimension, planes, one, two)
                    self.same(way, self.way_anew(planes, one, two))
                    self.same(step_through(dimension, planes, two, one), way[::-1])
                    self.same((way[0], way[-1]), (signs_at(planes, one), signs_at(planes, two)))

    def way_anew(self, planes, one, two):
        near, far = numbers_at(one), numbers_at(two)
        turns = {Fraction(0), Fraction(1)}
        for plane in planes:
            rise = worth(plane, far) - worth(plane, near)
            if rise != 0:
                turns.add(-worth(plane, near) / rise)
        turns = sorted(turn for turn in turns if 0 <= turn <= 1)
        found = []
        for turn in sorted(turns + [(2 * a + b) / 3 for a, b in zip(turns, turns[1:])]):
            values = [worth(plane, [a + turn * (b - a) for a, b in zip(near, far)]) for plane in planes]
            signs = tuple((value > 0) - (value < 0) for value in values)
            if found[-1:] != [signs]:
                found.append(signs)
        return tuple(found)

    def test_great_numbers(self):
        self.same(step_through(1, ((BIG, -1), (BIG, -2)), (0, 1), (1, 1)),
                  ((-1, -1), (0, -1), (1, -1), (1, 0), (1, 1)))


if __name__ == "__main__":
    unittest.main()
