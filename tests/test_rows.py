"""Promise [11]: rows and planes."""

import unittest
from itertools import product
from math import gcd

from helping import BIG, NO_INTEGERS, NO_TUPLES, OTHER_BIG, SolidCase, numbers_at, pair, worth
from onesolid.errors import NotRow
from onesolid.points import moved_by
from onesolid.rows import check_plane, check_row, plane_of, sign_at, signs_at, slope, value_at

DIMENSIONS = (1, 2, 3, 4)
PLANES = {
    1: ((1, 0), (2, -3), (3, 1), (BIG, OTHER_BIG)),
    2: ((1, 0, 0), (0, 1, -1), (2, -4, 3), (0, 2, 1), (BIG, -BIG, 1)),
    3: ((1, 0, 0, 0), (0, 0, 1, 5), (6, 10, -15, 0), (0, 3, -3, 2), (2, 2, 2, BIG)),
    4: ((1, 0, 0, 0, 0), (0, 0, 0, 1, -2), (0, 2, -4, 6, 7), (2, 4, 6, 8, -1), (1, 1, 1, BIG, 0)),
}


class Rows(SolidCase):

    def test_check_row_returns_rows(self):
        for dimension in DIMENSIONS:
            noughts = (0,) * (dimension + 1)
            for row in PLANES[dimension] + (noughts, (-2,) * (dimension + 1), noughts[1:] + (BIG,)):
                self.assertIs(check_row(dimension, row), row)

    def test_check_plane_returns_planes(self):
        for dimension in DIMENSIONS:
            for plane in PLANES[dimension]:
                self.assertIs(check_plane(dimension, plane), plane)

    def test_both_refuse_another_kind_or_length(self):
        for check in (check_row, check_plane):
            for dimension in DIMENSIONS:
                for value in NO_TUPLES + ((), (1,) * dimension, (1,) * (dimension + 2), ("a",) * dimension):
                    self.refused(NotRow, check, dimension, value, place=-1)
                self.refused(NotRow, check, dimension, [1] * (dimension + 1), place=-1)

    def test_both_tell_the_first_that_is_no_integer(self):
        for check in (check_row, check_plane):
            for dimension in DIMENSIONS:
                for place in range(dimension + 1):
                    for wrong in NO_INTEGERS:
                        value = (0,) * place + (wrong,) + (None,) * (dimension - place)
                        self.refused(NotRow, check, dimension, value, place=place)

    def test_check_plane_refuses_other_rows(self):
        for dimension in DIMENSIONS:
            noughts = (0,) * (dimension + 1)
            wrong = [noughts, noughts[1:] + (1,), noughts[1:] + (-1,), (2,) * (dimension + 1), (-1,) + noughts[1:]]
            wrong += [(-1,) + noughts[2:] + (1,), (7,) + noughts[2:] + (BIG,), (BIG,) + noughts[1:]]
            for row in wrong:
                self.refused(NotRow, check_plane, dimension, row, place=-2)
                self.assertIs(check_row(dimension, row), row)
        self.refused(NotRow, check_plane, 2, (0, -1, 3), place=-2)
        self.refused(NotRow, check_plane, 3, (0, 0, -2, 1), place=-2)

    def test_plane_of(self):
        self.same(plane_of((4, 6)), (2, 3))
        self.same(plane_of((-4, 6)), (2, -3))
        self.same(plane_of((0, -4, 0)), (0, 1, 0))
        self.same(plane_of((-6, 4, 9)), (6, -4, -9))
        self.same(plane_of((0, 0, -3, -6)), (0, 0, 1, 2))
        self.same(plane_of((0, 0, 0, 2, 3)), (0, 0, 0, 2, 3))
        self.same(plane_of(row=(-BIG, 7 * BIG, 0)), (1, -7, 0))

    def test_plane_of_rows_without_coefficients(self):
        for dimension in DIMENSIONS:
            for last in (0, 1, -1, BIG):
                self.assertIsNone(plane_of((0,) * dimension + (last,)))

    def test_plane_of_is_the_one_plane_of_each_set(self):
        for row in product(range(-3, 4), repeat=3):
            if row[:2] != (0, 0):
                plane = check_plane(2, plane_of(row))
                sign = 1 if row > (0, 0, 0) else -1
                self.same(tuple(sign * gcd(*row) * number for number in plane), row)
        for plane in PLANES[3]:
            for factor in (1, -1, 6, -BIG):
                self.same(plane_of(tuple(factor * number for number in plane)), plane)

    def test_value_at_and_sign_at(self):
        self.same(value_at((2, -3), (3, 2)), (0, 1))
        self.same(value_at((2, 5), (1, 4)), (11, 2))
        self.same(value_at((1, 1, 0), (1, -4, 6)), (-1, 2))
        self.same(value_at((0, 0, 0), (1, 2, 3)), (0, 1))
        self.same(value_at((0, 0, 7), (1, 2, 3)), (7, 1))
        self.same(value_at(row=(1, 2, 3, 4), point=(1, 1, 1, 2)), (7, 1))
        self.same(sign_at((2, -3), (3, 2)), 0)
        self.same(sign_at((1, 1, 0), (1, -4, 6)), -1)
        self.same(sign_at(row=(1, 2, 3, 4), point=(1, 1, 1, 2)), 1)

    def test_value_at_great_numbers(self):
        self.same(value_at((BIG, -OTHER_BIG, 1), (OTHER_BIG, BIG, 1)), (1, 1))
        self.same(value_at((OTHER_BIG, 0), (BIG, OTHER_BIG)), (BIG, 1))
        self.same(sign_at((BIG, -OTHER_BIG, -1), (OTHER_BIG, BIG, BIG * 2)), -1)

    def test_values_and_signs_of_many(self):
        points = [point for point in product((-2, 0, 1), (0, 3), (-1, 5), (1, 2, 6)) if gcd(*point) == 1]
        for point in points:
            for row in PLANES[3] + ((0, 0, 0, 0), (-2, 4, 6, 8), (0, 0, 0, -1)):
                value = worth(row, numbers_at(point))
                self.same(value_at(row, point), pair(value))
                self.same(sign_at(row, point), (value > 0) - (value < 0))

    def test_signs_at(self):
        self.same(signs_at((), (0, 0, 1)), ())
        self.same(signs_at(planes=((1, 0, -1), (0, 1, 0), (1, 1, 0), (1, 0, -1)), point=(0, 1, 1)), (-1, 1, 1, -1))
        self.same(signs_at(((1, 0), (2, -1), (1, -1)), (1, 2)), (1, 0, -1))
        self.same(signs_at(((1, 0, 0, 0, 0), (0, 0, 0, 1, -2)), (0, 1, 1, 5, 2)), (0, 1))

    def test_slope(self):
        self.same(slope((2, 7), (1,)), 2)
        self.same(slope((2, 7), (-1,)), -2)
        self.same(slope((2, -4, 100), (2, 1)), 0)
        self.same(slope(row=(1, 2, 3, 100), direction=(1, -1, 2)), 5)
        self.same(slope((1, 0, 0, BIG, 9), (0, 1, 0, -BIG)), -BIG * BIG)

    def test_slope_is_the_growth_along_the_direction(self):
        for row in PLANES[2]:
            for direction in ((1, 0), (-2, 3), (0, 1)):
                point = (1, 2, 3)
                there = worth(row, numbers_at(moved_by(point, direction, (1, 1))))
                self.assertEqual(slope(row, direction), there - worth(row, numbers_at(point)))


if __name__ == "__main__":
    unittest.main()
