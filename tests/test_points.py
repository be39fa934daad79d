"""Promise [10]: points and directions."""

import unittest
from fractions import Fraction
from itertools import product
from math import gcd

from helping import BIG, NO_INTEGERS, NO_TUPLES, OTHER_BIG, SolidCase, numbers_at, pair
from onesolid.errors import Flat, NotPoint, NotRow, Unlike
from onesolid.points import (check_direction, check_point, coordinates_of, direction_of, direction_to, moved_by,
                             point_of)

DIMENSIONS = (1, 2, 3, 4)
POINTS = {
    1: ((0, 1), (3, 2), (-5, 3), (BIG, OTHER_BIG)),
    2: ((0, 0, 1), (1, 2, 1), (-1, 0, 2), (2, 4, 3), (BIG, -1, OTHER_BIG)),
    3: ((0, 0, 0, 1), (1, -2, 3, 6), (2, 4, 6, 3), (-1, 0, 0, 2), (0, BIG, 0, 5)),
    4: ((0, 0, 0, 0, 1), (1, 2, 3, 4, 5), (-2, 0, 4, 6, 3), (2, 2, 2, 2, 1), (1, 0, 0, -BIG, 8)),
}
DIRECTIONS = {
    1: ((1,), (-1,)),
    2: ((1, 0), (0, -1), (2, -3), (BIG, OTHER_BIG)),
    3: ((0, 0, 1), (2, -3, 4), (-1, 0, 0), (6, 10, 15)),
    4: ((1, 0, 0, 0), (0, 0, 0, -1), (2, 4, -6, 9), (6, 10, 15, BIG)),
}


class Points(SolidCase):

    def test_check_point_returns_points(self):
        for dimension in DIMENSIONS:
            for point in POINTS[dimension]:
                self.assertIs(check_point(dimension, point), point)

    def test_check_point_refuses_another_kind_or_length(self):
        for dimension in DIMENSIONS:
            for value in NO_TUPLES + ((), (1,) * dimension, (1,) * (dimension + 2), ("a",) * dimension):
                self.refused(NotPoint, check_point, dimension, value, place=-1)
            self.refused(NotPoint, check_point, dimension, [1] * (dimension + 1), place=-1)

    def test_check_point_tells_the_first_that_is_no_integer(self):
        for dimension in DIMENSIONS:
            for place in range(dimension + 1):
                for wrong in NO_INTEGERS:
                    value = (2,) * place + (wrong,) + (2,) * (dimension - place)
                    self.refused(NotPoint, check_point, dimension, value, place=place)
                    # What comes behind it may be wrong, too: no integers, or a last one of 0.
                    value = (0,) * place + (wrong,) * (dimension - place) + ("0",)
                    self.refused(NotPoint, check_point, dimension, value, place=place)

    def test_check_point_refuses_a_last_number_below_1(self):
        for dimension in DIMENSIONS:
            for last in (0, -1, -2, -BIG):
                for first in (0, 1, 2, -BIG):
                    value = (first,) * dimension + (last,)
                    self.refused(NotPoint, check_point, dimension, value, place=dimension)

    def test_check_point_refuses_a_common_divisor(self):
        for dimension in DIMENSIONS:
            for value in ((0,) * dimension + (2,), (2,) * dimension + (4,), (-3,) * dimension + (3,)):
                self.refused(NotPoint, check_point, dimension, value, place=-2)
            self.refused(NotPoint, check_point, dimension, (BIG,) * dimension + (7 * BIG,), place=-2)

    def test_point_of_and_coordinates_of(self):
        self.same(point_of(((1, 2),)), (1, 2))
        self.same(point_of(((1, 2), (1, 3))), (3, 2, 6))
        self.same(point_of(((0, 1), (-5, 4), (1, 6))), (0, -15, 2, 12))
        self.same(point_of(((0, 1),) * 4), (0, 0, 0, 0, 1))
        self.same(point_of(coordinates=((1, 2), (3, 2), (1, 1), (-1, 1))), (1, 3, 2, -2, 2))
        self.same(coordinates_of((3, 2, 6)), ((1, 2), (1, 3)))
        self.same(coordinates_of((0, 1)), ((0, 1),))
        self.same(coordinates_of((-4, 0, 6, 3)), ((-4, 3), (0, 1), (2, 1)))

    def test_point_of_undoes_coordinates_of(self):
        for dimension in DIMENSIONS:
            for point in POINTS[dimension]:
                coordinates = coordinates_of(point)
                self.same(coordinates, tuple(pair(number) for number in numbers_at(point)))
                self.same(point_of(coordinates), point)
                self.assertIs(check_point(dimension, point), point)

    def test_point_of_great_coordinates(self):
        point = point_of(((BIG, OTHER_BIG), (1, 11)))
        self.same(point, (BIG, OTHER_BIG // 11, OTHER_BIG))


class Directions(SolidCase):

    def test_check_direction_returns_directions(self):
        for dimension in DIMENSIONS:
            for direction in DIRECTIONS[dimension]:
                self.assertIs(check_direction(dimension, direction), direction)

    def test_check_direction_refuses_another_kind_or_length(self):
        for dimension in DIMENSIONS:
            for value in NO_TUPLES + ((), (1,) * (dimension - 1), (1,) * (dimension + 1), ("a",) * (dimension + 1)):
                self.refused(NotRow, check_direction, dimension, value, place=-1)
            self.refused(NotRow, check_direction, dimension, [1] * dimension, place=-1)

    def test_check_direction_tells_the_first_that_is_no_integer(self):
        for dimension in DIMENSIONS:
            for place in range(dimension):
                for wrong in NO_INTEGERS:
                    value = (0,) * place + (wrong,) + (None,) * (dimension - place - 1)
                    self.refused(NotRow, check_direction, dimension, value, place=place)

    def test_check_direction_refuses_others(self):
        for dimension in DIMENSIONS:
            self.refused(NotRow, check_direction, dimension, (0,) * dimension, place=-2)
            self.refused(NotRow, check_direction, dimension, (2,) * dimension, place=-2)
            self.refused(NotRow, check_direction, dimension, (-2,) + (0,) * (dimension - 1), place=-2)
            self.refused(NotRow, check_direction, dimension, (0,) * (dimension - 1) + (BIG,), place=-2)

    def test_direction_of(self):
        self.same(direction_of((6,)), (1,))
        self.same(direction_of((-6,)), (-1,))
        self.same(direction_of((0, -4)), (0, -1))
        self.same(direction_of((4, -6, 0)), (2, -3, 0))
        self.same(direction_of((6, 10, 15)), (6, 10, 15))
        self.same(direction_of((-2 * BIG, 4 * BIG, 0, 2)), (-BIG, 2 * BIG, 0, 1))
        self.same(direction_of(numbers=(3 * BIG, -BIG)), (3, -1))

    def test_direction_of_is_a_positive_multiple(self):
        for numbers in product(range(-4, 5), repeat=3):
            if numbers == (0, 0, 0):
                self.refused(Flat, direction_of, numbers)
            else:
                divisor = gcd(*numbers)
                found = check_direction(3, direction_of(numbers))
                self.same(tuple(divisor * number for number in found), numbers)

    def test_direction_of_noughts(self):
        for dimension in DIMENSIONS:
            self.refused(Flat, direction_of, (0,) * dimension)

    def test_moved_by(self):
        self.same(moved_by((0, 1), (1,), (3, 2)), (3, 2))
        self.same(moved_by((1, 2), (-1,), (1, 2)), (0, 1))
        self.same(moved_by((1, 2, 3), (1, -1), (0, 1)), (1, 2, 3))
        self.same(moved_by((1, 2, 3), (1, -1), (2, 3)), (1, 0, 1))
        self.same(moved_by(point=(0, 0, 0, 1), direction=(2, 4, 5), amount=(1, 2)), (2, 4, 5, 2))
        self.same(moved_by((0, 0, 0, 0, 1), (0, 0, 0, 1), (-BIG, 2)), (0, 0, 0, -BIG, 2))

    def test_moved_by_goes_as_far_as_told(self):
        for dimension in DIMENSIONS:
            for point, direction in product(POINTS[dimension], DIRECTIONS[dimension]):
                for amount in ((0, 1), (1, 1), (-1, 1), (5, 6), (-7, 4), (BIG, 3)):
                    there = moved_by(point, direction, amount)
                    check_point(dimension, there)
                    wanted = [x + Fraction(*amount) * v for x, v in zip(numbers_at(point), direction)]
                    self.assertEqual(numbers_at(there), wanted)

    def test_direction_to(self):
        self.same(direction_to((0, 1), (5, 2)), (1,))
        self.same(direction_to((5, 2), (0, 1)), (-1,))
        self.same(direction_to((1, 1, 2), (1, 1, 1)), (1, 1))
        self.same(direction_to((1, 0, 2), (0, 1, 3)), (-3, 2))
        self.same(direction_to(point=(0, 0, 0, 1), other=(4, -6, 8, 3)), (2, -3, 4))

    def test_direction_to_leads_to_the_other(self):
        for dimension in DIMENSIONS:
            for point, direction in product(POINTS[dimension], DIRECTIONS[dimension]):
                for amount in ((1, 1), (5, 6), (BIG, 3)):
                    there = moved_by(point, direction, amount)
                    self.same(direction_to(point, there), direction)
                    self.same(direction_to(there, point), tuple(-number for number in direction))

    def test_direction_to_itself(self):
        for dimension in DIMENSIONS:
            for point in POINTS[dimension]:
                self.refused(Unlike, direction_to, point, tuple(list(point)))


if __name__ == "__main__":
    unittest.main()
