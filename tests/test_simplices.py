"""Promises [48] and [49]: simplices, weights, cut simplices, points led, volumes."""

import unittest
from fractions import Fraction
from math import factorial
from random import Random

from anew import reduced, whole
from formed import box
from helping import BIG, NO_TUPLES, OTHER_BIG, SolidCase, independent, numbers_at, told
from making import small_points
from onesolid.cuttings import cutting
from onesolid.errors import Flat, NotPoint, Unlike
from onesolid.forms import form_of
from onesolid.numbers import check_fraction
from onesolid.points import check_point
from onesolid.simplices import check_simplex, cut_simplex, in_simplex, led_point, middle, simplex_volume, weights

DIMENSIONS = (1, 2, 3)
TRIANGLE = ((0, 0, 1), (0, 4, 1), (4, 0, 1))


def some_simplex(random, dimension, many):
    """An ascending tuple of so many small points that lie in no lesser flat."""
    while True:
        points = sorted(set(small_points(dimension, many, random.random())))
        if len(points) == many and independent(points) == many:
            return tuple(points)


def mixed(simplex, shares):
    """The coordinates of the sum of the corners, each multiplied by its share."""
    corners = [numbers_at(corner) for corner in simplex]
    return [sum(share * corner[place] for share, corner in zip(shares, corners)) for place in range(len(corners[0]))]


def point_at(numbers):
    """The point with some fractions of Python's as its coordinates."""
    return whole(numbers + [1])


class CheckSimplex(SolidCase):

    def test_simplices(self):
        random = Random(220)
        for dimension in DIMENSIONS:
            for many in range(1, dimension + 2):
                for _ in range(20):
                    simplex = some_simplex(random, dimension, many)
                    self.assertIs(check_simplex(dimension, simplex), simplex)
        big = ((-BIG, OTHER_BIG, 1), (0, 0, 1), (BIG, 1, OTHER_BIG))
        self.assertIs(check_simplex(dimension=2, value=big), big)

    def test_no_tuple_of_so_many(self):
        for dimension in DIMENSIONS:
            for value in NO_TUPLES + ((),):
                self.refused(NotPoint, check_simplex, dimension, value, place=-1)
            points = tuple((k,) * dimension + (1,) for k in range(dimension + 2))
            self.refused(NotPoint, check_simplex, dimension, points, place=-1)
            self.refused(NotPoint, check_simplex, dimension, (None,) * (dimension + 2), place=-1)
            self.refused(NotPoint, check_simplex, dimension, list(points[:1]), place=-1)

    def test_the_first_that_is_no_point_or_not_greater(self):
        for value in NO_TUPLES + ((0, 1), (0, 0, 0), (2, 2, 2), (0, 0, -1), (True, 0, 1), (0, 1.0, 1), [0, 0, 1]):
            for place in range(3):
                points = list(TRIANGLE)
                points[place] = value
                self.refused(NotPoint, check_simplex, 2, tuple(points), place=place)
        self.refused(NotPoint, check_simplex, 2, TRIANGLE[:2] + TRIANGLE[1:2], place=2)
        self.refused(NotPoint, check_simplex, 2, TRIANGLE[:1] * 2 + (None,), place=1)
        self.refused(NotPoint, check_simplex, 2, (TRIANGLE[0], TRIANGLE[2], TRIANGLE[1]), place=2)
        self.refused(NotPoint, check_simplex, 2, TRIANGLE[::-1], place=1)
        self.refused(NotPoint, check_simplex, 1, ((3, 1), (1, 2)), place=1)
        # Ascending as Python compares, not by the coordinates: 1/2 is told by (1, 2).
        self.assertEqual(check_simplex(1, ((1, 2), (3, 7))), ((1, 2), (3, 7)))
        self.assertEqual(check_simplex(1, ((1, 2), (1, 3))), ((1, 2), (1, 3)))
        self.refused(NotPoint, check_simplex, 2, ((0, 0, 1), (0, 0, 1), (0, 0, 1)), place=1)

    def test_corners_in_a_lesser_flat(self):
        self.refused(Flat, check_simplex, 2, ((0, 0, 1), (1, 1, 1), (2, 2, 1)))
        self.refused(Flat, check_simplex, 3, ((0, 0, 0, 1), (1, 1, 1, 1), (2, 2, 2, 1)))
        self.refused(Flat, check_simplex, 3, ((0, 0, 0, 1), (0, 0, 1, 1), (0, 1, 0, 1), (0, 1, 1, 1)))
        self.refused(Flat, check_simplex, 3, ((0, 0, 0, 1), (0, 0, 1, 1), (0, 1, 0, 1), (0, BIG, OTHER_BIG, 1)))
        random = Random(221)
        for dimension in (2, 3):
            for _ in range(60):
                points = tuple(sorted(set(small_points(dimension, random.randint(3, dimension + 1), random.random()))))
                if independent(points) == len(points):
                    self.assertIs(check_simplex(dimension, points), points)
                else:
                    self.refused(Flat, check_simplex, dimension, points)


class Weights(SolidCase):

    def test_worked_by_hand(self):
        self.same(weights(simplex=TRIANGLE, point=(1, 1, 1)), ((1, 2), (1, 4), (1, 4)))
        self.same(weights(TRIANGLE, (0, 0, 1)), ((1, 1), (0, 1), (0, 1)))
        self.same(weights(TRIANGLE, (2, 2, 1)), ((0, 1), (1, 2), (1, 2)))
        self.same(weights(TRIANGLE, (4, 4, 1)), ((-1, 1), (1, 1), (1, 1)))
        self.same(weights(TRIANGLE[1:], (2, 2, 1)), ((1, 2), (1, 2)))
        self.same(weights(TRIANGLE[1:], (1, 1, 1)), None)
        self.same(weights(TRIANGLE[1:], (5, -1, 1)), ((-1, 4), (5, 4)))
        self.same(weights(TRIANGLE[:1], (0, 0, 1)), ((1, 1),))
        self.same(weights(TRIANGLE[:1], (0, 1, 1)), None)
        self.same(weights(((0, 0, 0, 1), (0, 0, 2, 1), (0, 2, 0, 1)), (0, 1, 1, 2)), ((1, 2), (1, 4), (1, 4)))
        self.same(weights(((0, 0, 0, 1), (0, 0, 2, 1), (0, 2, 0, 1)), (1, 1, 1, 2)), None)
        self.same([in_simplex(simplex=TRIANGLE, point=point)
                   for point in ((1, 1, 1), (0, 0, 1), (2, 2, 1), (4, 4, 1), (1, 1, BIG))],
                  [True, False, False, False, True])
        self.same([in_simplex(TRIANGLE[1:], (2, 2, 1)), in_simplex(TRIANGLE[1:], (1, 1, 1)),
                   in_simplex(TRIANGLE[:1], (0, 0, 1)), in_simplex(TRIANGLE[:1], (1, 0, 1)),
                   in_simplex(TRIANGLE[1:], (4, 0, 1))], [True, False, True, False, False])

    def test_they_add_up(self):
        random = Random(222)
        for dimension in DIMENSIONS:
            for _ in range(40):
                simplex = some_simplex(random, dimension, random.randint(1, dimension + 1))
                shares = [Fraction(random.randint(-3, 6), random.randint(1, 5)) for _ in simplex[1:]]
                shares.append(1 - sum(shares))
                point = point_at(mixed(simplex, shares))
                found = weights(simplex, point)
                self.same([told(weight) for weight in found], [Fraction(share) for share in shares])
                for weight in found:
                    check_fraction(weight)
                self.assertIs(in_simplex(simplex, point), min(shares) > 0)

    def test_points_beside_the_flat(self):
        random = Random(223)
        for dimension in (2, 3):
            for _ in range(60):
                simplex = some_simplex(random, dimension, random.randint(1, dimension))
                point = small_points(dimension, 1, random.random())[0]
                inside = len(reduced(list(simplex) + [point])) == len(simplex)
                self.assertIs(weights(simplex, point) is not None, inside)
                if not inside:
                    self.assertIs(in_simplex(simplex, point), False)

    def test_great_numbers(self):
        simplex = ((0, 0, 1), (0, OTHER_BIG, 1), (BIG, 0, 1))
        self.same(weights(simplex, (1, 1, 1)),
                  ((BIG * OTHER_BIG - BIG - OTHER_BIG, BIG * OTHER_BIG), (1, OTHER_BIG), (1, BIG)))
        self.same(weights(((1, BIG), (1, OTHER_BIG)), (1, BIG)), ((1, 1), (0, 1)))


class Cuts(SolidCase):

    def test_middle(self):
        self.same(middle((0, 0, 1), (4, 2, 1)), (2, 1, 1))
        self.same(middle(point=(0, 1), other=(1, 1)), (1, 2))
        self.same(middle((1, 2), (1, 3)), (5, 12))
        self.same(middle((7, 3, 5, 2), (7, 3, 5, 2)), (7, 3, 5, 2))
        self.same(middle((BIG, 1), (-BIG, 1)), (0, 1))
        random = Random(224)
        for dimension in DIMENSIONS:
            for _ in range(20):
                one, two = small_points(dimension, 2, random.random())
                half = check_point(dimension, middle(one, two))
                self.assertEqual(numbers_at(half), [(a + b) / 2 for a, b in zip(numbers_at(one), numbers_at(two))])
                self.same(middle(two, one), half)

    def test_worked_by_hand(self):
        first, second, wall = cut_simplex(simplex=TRIANGLE, one=0, other=2)
        self.same(first, ((0, 0, 1), (0, 4, 1), (2, 0, 1)))
        self.same(second, ((0, 4, 1), (2, 0, 1), (4, 0, 1)))
        self.same(wall, ((0, 4, 1), (2, 0, 1)))
        self.same(cut_simplex(TRIANGLE, 2, 0), (second, first, wall))
        self.same(cut_simplex(((0, 1), (1, 1)), 0, 1), (((0, 1), (1, 2)), ((1, 1), (1, 2)), ((1, 2),)))
        self.same(cut_simplex(((0, 1), (1, 1)), 1, 0), (((1, 1), (1, 2)), ((0, 1), (1, 2)), ((1, 2),)))

    def test_the_three_part_the_simplex(self):
        random = Random(225)
        for dimension in DIMENSIONS:
            for _ in range(30):
                simplex = some_simplex(random, dimension, random.randint(2, dimension + 1))
                one, other = random.sample(range(len(simplex)), 2)
                parts = cut_simplex(simplex, one, other)
                for part in parts:
                    check_simplex(dimension, part)
                half = middle(simplex[one], simplex[other])
                self.same(parts[0], tuple(sorted(set(simplex) - {simplex[other]} | {half})))
                self.same(parts[1], tuple(sorted(set(simplex) - {simplex[one]} | {half})))
                self.same(parts[2], tuple(sorted(set(simplex) - {simplex[one], simplex[other]} | {half})))
                self.same(cut_simplex(simplex, other, one), (parts[1], parts[0], parts[2]))
                for _ in range(10):
                    shares = [Fraction(random.randint(0, 3)) for _ in simplex]
                    if sum(shares):
                        point = point_at(mixed(simplex, [share / sum(shares) for share in shares]))
                        inside = [in_simplex(part, point) for part in parts]
                        self.assertEqual(inside.count(True), int(in_simplex(simplex, point)))
                if len(simplex) == dimension + 1:
                    halves = [told(simplex_volume(part)) for part in parts]
                    self.assertEqual(halves, [told(simplex_volume(simplex)) / 2] * 2 + [0])


class Led(SolidCase):

    def test_worked_by_hand(self):
        self.same(led_point(TRIANGLE, ((0, 0, 0, 1), (0, 0, 4, 1), (0, 4, 0, 1)), (1, 1, 1)), (0, 1, 1, 1))
        self.same(led_point(simplex=((0, 1), (1, 1)), other=((5, 5, 1), (7, 9, 1)), point=(1, 2)), (6, 7, 1))
        self.same(led_point(((0, 1), (1, 1)), ((5, 5, 1), (7, 9, 1)), (2, 1)), (9, 13, 1))
        self.same(led_point(((3, 1),), ((1, 2, 3, 4),), (3, 1)), (1, 2, 3, 4))
        self.same(led_point(((0, 1), (BIG, 1)), ((0, 1), (OTHER_BIG, 1)), (1, 1)), (OTHER_BIG, BIG))

    def test_the_weights_stay(self):
        random = Random(226)
        for _ in range(60):
            one, two = random.choice(DIMENSIONS), random.choice(DIMENSIONS)
            many = random.randint(1, min(one, two) + 1)
            simplex, other = some_simplex(random, one, many), some_simplex(random, two, many)
            shares = [Fraction(random.randint(-2, 5), random.randint(1, 4)) for _ in simplex[1:]]
            point = point_at(mixed(simplex, shares + [1 - sum(shares)]))
            found = check_point(two, led_point(simplex, other, point))
            self.same(weights(other, found), weights(simplex, point))
            self.same(led_point(other, simplex, found), point)

    def test_unlike(self):
        self.refused(Unlike, led_point, TRIANGLE, TRIANGLE[:2], (1, 1, 1))
        self.refused(Unlike, led_point, TRIANGLE[:2], TRIANGLE, (0, 1, 1))
        self.refused(Unlike, led_point, TRIANGLE[:1], ((0, 1), (1, 1)), (0, 0, 1))
        self.refused(Unlike, led_point, TRIANGLE[:2], TRIANGLE[1:], (1, 1, 1))
        self.refused(Unlike, led_point, TRIANGLE[:1], ((7, 1),), (1, 1, 1))


class Volumes(SolidCase):

    def test_worked_by_hand(self):
        self.same(simplex_volume(simplex=TRIANGLE), (8, 1))
        self.same(simplex_volume(((0, 1), (7, 2))), (7, 2))
        self.same(simplex_volume(((0, 0, 0, 1), (0, 0, 1, 1), (0, 1, 0, 1), (1, 0, 0, 1))), (1, 6))
        for few in (TRIANGLE[:1], TRIANGLE[1:], ((3, 1),), ((0, 0, 0, 1), (0, 0, 1, 1), (0, 1, 0, 1))):
            self.same(simplex_volume(few), (0, 1))
        self.same(simplex_volume(((-BIG, 1), (OTHER_BIG, 1))), (BIG + OTHER_BIG, 1))
        self.same(simplex_volume(((0, 0, 1), (0, 1, BIG), (1, 0, OTHER_BIG))), (1, 2 * BIG * OTHER_BIG))

    def test_told_anew(self):
        random = Random(227)
        for dimension in DIMENSIONS:
            for _ in range(30):
                simplex = some_simplex(random, dimension, dimension + 1)
                corners = [numbers_at(corner) for corner in simplex]
                steps = [[a - b for a, b in zip(corner, corners[0])] for corner in corners[1:]]
                volume = check_fraction(simplex_volume(simplex))
                self.assertEqual(told(volume), abs(determinant(steps)) / factorial(dimension))
                self.assertGreater(volume[0], 0)

    def test_a_cut_box(self):
        for dimension in DIMENSIONS:
            volumes = [told(simplex_volume(simplex)) for simplex in cutting(form_of(dimension, box(dimension, 0, 2)))]
            self.assertEqual(sum(volumes), 2 ** dimension)


def determinant(rows):
    """By taking multiples of rows from others."""
    rows = [list(row) for row in rows]
    found = Fraction(1)
    for k in range(len(rows)):
        pivot = next((j for j in range(k, len(rows)) if rows[j][k] != 0), None)
        if pivot is None:
            return Fraction(0)
        if pivot != k:
            rows[k], rows[pivot] = rows[pivot], rows[k]
            found = -found
        found *= rows[k][k]
        for j in range(k + 1, len(rows)):
            factor = rows[j][k] / rows[k][k]
            rows[j] = [a - factor * b for a, b in zip(rows[j], rows[k])]
    return found


if __name__ == "__main__":
    unittest.main()
