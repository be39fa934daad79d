"""Promise [30]: far signs, and cells that go on without end."""

import unittest
from itertools import product
from random import Random

from anew import has_points
from arranged import SPECIAL, pairs_anew, some_arrangements
from helping import BIG, SolidCase
from onesolid.cells import cells_of, point_in
from onesolid.endless import direction_in, far_cells, far_of, far_signs, is_cell_bounded
from onesolid.numbers import lowest
from onesolid.points import check_direction, direction_of, moved_by
from onesolid.rows import signs_at, slope

DIMENSIONS = (1, 2, 3)
LINES = ((1, 0, 0), (0, 1, 0), (1, 1, -1))


def arrangements(dimension, many, most, seed):
    yield from SPECIAL[dimension]
    yield from some_arrangements(dimension, many, most, seed)


def small_directions(dimension, size=3):
    for numbers in product(range(-size, size + 1), repeat=dimension):
        if any(numbers):
            yield direction_of(numbers)


def far_anew(dimension, planes):
    """The far signs of all directions: of all signs there could be those that some direction has."""
    found = [()]
    normals = [plane[:-1] + (0,) for plane in planes]
    for many in range(1, len(planes) + 1):
        longer = [far + (sign,) for far in found for sign in (-1, 0, 1)]
        found = [far for far in longer if has_points(pairs_anew(normals[:many], far), dimension)]
    return tuple(far for far in found if any(far) or has_nought(dimension, normals))


def has_nought(dimension, normals):
    """Whether all normals are 0 along some direction."""
    flat = [("eq", normal) for normal in normals]
    units = [tuple(int(place == own) for own in range(dimension)) + (0,) for place in range(dimension)]
    return any(has_points(flat + [("gt", unit)], dimension) for unit in units)


class FarSigns(SolidCase):

    def test_worked_by_hand(self):
        self.same(far_signs((), (1,)), ())
        self.same(far_signs(((2, -1), (1, 7)), (-1,)), (-1, -1))
        self.same(far_signs(planes=LINES, direction=(1, -1)), (1, -1, 0))
        self.same(far_signs(LINES, (0, 1)), (0, 1, 1))
        self.same(far_signs(((1, -2, 3, BIG),), (1, 2, 1)), (0,))
        self.same(far_signs(((BIG, -1, 0),), (1, BIG)), (0,))


class FarCells(SolidCase):

    def test_worked_by_hand(self):
        for dimension in DIMENSIONS:
            self.same(far_cells(dimension, ()), ((),))
        self.same(far_cells(1, ((1, 0), (3, -1))), ((-1, -1), (1, 1)))
        # Along a plane all of its far signs are 0.
        self.same(far_cells(2, ((1, 1, 0),)), ((-1,), (0,), (1,)))
        self.same(far_cells(2, ((1, 1, 0), (1, 1, 5))), ((-1, -1), (0, 0), (1, 1)))
        self.same(far_cells(dimension=2, planes=LINES[:2]),
                  tuple((a, b) for a in (-1, 0, 1) for b in (-1, 0, 1) if (a, b) != (0, 0)))
        self.assertEqual(len(far_cells(3, LINES3)), 26)
        self.assertIn((0, 0), far_cells(3, LINES3[:2]))
        # It does not matter where the planes are.
        self.same(far_cells(3, ((1, 0, 0, 5), (0, 1, 0, -7), (0, 0, 1, 1))), far_cells(3, LINES3))

    def test_told_anew(self):
        for dimension in DIMENSIONS:
            for planes in arrangements(dimension, 20, 5, 40):
                self.same(far_cells(dimension, planes), far_anew(dimension, planes))

    def test_each_direction_has_such_signs(self):
        for dimension in DIMENSIONS:
            for planes in arrangements(dimension, 20, 8, 41):
                found = far_cells(dimension, planes)
                self.assertEqual(len(set(found)), len(found))
                for direction in small_directions(dimension):
                    self.assertIn(far_signs(planes, direction), found)


LINES3 = ((1, 0, 0, 0), (0, 1, 0, 0), (0, 0, 1, 0))


class DirectionIn(SolidCase):

    def test_directions_with_given_signs(self):
        for dimension in DIMENSIONS:
            for planes in arrangements(dimension, 25, 8, 42):
                for far in far_cells(dimension, planes):
                    direction = direction_in(dimension=dimension, planes=planes, far=far)
                    check_direction(dimension, direction)
                    self.same(far_signs(planes, direction), far)
                    self.same(direction_in(dimension, planes, far), direction)

    def test_one_choice_alone(self):
        self.same(direction_in(1, ((2, -1),), (-1,)), (-1,))
        self.assertIn(direction_in(2, ((1, -2, 5),), (0,)), ((2, 1), (-2, -1)))
        self.same(direction_in(2, ((1, -2, 5), (1, 0, 0)), (0, -1)), (-2, -1))
        self.assertIn(direction_in(3, ((1, 0, 0, 1), (0, 1, 0, 3)), (0, 0)), ((0, 0, 1), (0, 0, -1)))

    def test_as_many_planes_as_may_be(self):
        planes = tuple((1, k, k * k, k ** 3) for k in range(16))
        found = far_cells(3, planes)
        self.assertEqual(len(found), 2 * 120 + 4 * 120 + 2 + 240)
        for far in found[::40]:
            self.same(far_signs(planes, direction_in(3, planes, far)), far)


class FarOf(SolidCase):

    def test_worked_by_hand(self):
        # The triangle, a stretch of its side, a corner: along none.
        for signs in ((1, 1, -1), (0, 1, -1), (0, 0, -1)):
            self.same(far_of(2, LINES, signs), ())
            self.same(is_cell_bounded(2, LINES, signs), True)
        # Behind a corner; behind a side; along a line one way.
        self.same(far_of(2, LINES, (-1, -1, -1)), ((-1, -1, -1), (-1, 0, -1), (0, -1, -1)))
        self.same(far_of(2, LINES, (1, 1, 1)), ((0, 1, 1), (1, 0, 1), (1, 1, 1)))
        self.same(far_of(dimension=2, planes=LINES, signs=(-1, 1, -1)), ((-1, 0, -1), (-1, 1, -1), (-1, 1, 0)))
        self.same(far_of(2, LINES, (0, 1, 1)), ((0, 1, 1),))
        self.same(is_cell_bounded(dimension=2, planes=LINES, signs=(0, 1, 1)), False)

    def test_no_planes(self):
        for dimension in DIMENSIONS:
            self.same(far_of(dimension, (), ()), ((),))
            self.same(is_cell_bounded(dimension, (), ()), False)

    def test_along_a_line_both_ways(self):
        strip = ((1, 1, 0), (1, 1, 1))
        self.same(far_of(2, strip, (-1, 1)), ((0, 0),))
        self.same(far_of(2, strip, (0, 1)), ((0, 0),))
        self.same(far_of(2, strip, (1, 1)), ((0, 0), (1, 1)))
        for signs in cells_of(2, strip):
            self.same(is_cell_bounded(2, strip, signs), False)

    def test_all_through_one_point(self):
        planes = ((1, 0, 0), (0, 1, 0), (1, 1, 0), (1, -1, 0))
        for signs in cells_of(2, planes):
            self.same(is_cell_bounded(2, planes, signs), not any(signs))
        self.same(far_of(2, planes, (0, 1, 1, -1)), ((0, 1, 1, -1),))
        self.same(far_of(2, planes, (0, 0, 0, 0)), ())

    def test_on_the_line(self):
        planes = ((1, 5), (1, 4), (2, 1))
        bounded = [signs for signs in cells_of(1, planes) if is_cell_bounded(1, planes, signs)]
        self.same(tuple(bounded), ((0, -1, -1), (1, -1, -1), (1, 0, -1), (1, 1, -1), (1, 1, 0)))
        self.same(far_of(1, planes, (-1, -1, -1)), ((-1, -1, -1),))
        self.same(far_of(1, planes, (1, 1, 1)), ((1, 1, 1),))

    def test_cells_that_go_on_do_so_from_their_points(self):
        random = Random(43)
        for dimension in DIMENSIONS:
            for planes in arrangements(dimension, 10, 6, 44):
                steps = [direction_in(dimension, planes, far) for far in far_cells(dimension, planes)]
                steps += random.sample(list(small_directions(dimension)), min(8, 2 * dimension))
                for signs in cells_of(dimension, planes):
                    point = point_in(dimension, planes, signs)
                    going = far_of(dimension, planes, signs)
                    self.same(is_cell_bounded(dimension, planes, signs), going == ())
                    for step in steps:
                        stays = all(signs_at(planes, moved_by(point, step, lowest(amount, 1))) == signs
                                    for amount in (1, 1000, 10 ** 6))
                        self.assertEqual(far_signs(planes, step) in going, stays)
                        if stays:
                            self.assertTrue(all(slope(plane, step) == 0
                                                for plane, sign in zip(planes, signs) if sign == 0))


if __name__ == "__main__":
    unittest.main()
