"""Promise [12]: flats."""

import unittest
from itertools import combinations, product
from random import Random

from helping import (BIG, NO_INTEGERS, NO_TUPLES, OTHER_BIG, SolidCase, independent, numbers_at, pair, same_span, told,
                     worth)
from onesolid.errors import NotRow
from onesolid.flats import (check_flat, flat_beside, flat_dimension, flat_directions, flat_in, flat_meet, flat_of,
                            flat_point, flat_sum, flat_through, on_flat)
from onesolid.points import check_direction, check_point, coordinates_of, moved_by, point_of
from onesolid.rows import check_plane, slope, value_at

DIMENSIONS = (1, 2, 3, 4)
FLATS = {
    1: ((), ((1, 0),), ((3, -2),), ((BIG, OTHER_BIG),)),
    2: ((), ((1, 0, 0),), ((0, 2, -1),), ((2, -3, 5),), ((1, 0, -1), (0, 3, 2)), ((BIG, 0, 1), (0, 1, 0))),
    3: ((), ((0, 0, 1, 0),), ((2, -3, 4, 5),), ((1, 0, 2, 1), (0, 3, -1, 0)), ((1, 5, 0, 2), (0, 0, 2, 1)),
        ((0, 1, 0, 2), (0, 0, 1, -BIG)), ((1, 0, 0, 0), (0, 2, 0, 1), (0, 0, 3, -1))),
    4: ((), ((0, 0, 0, 3, 2),), ((1, 2, 3, 4, 5),), ((2, 0, 1, -1, 0), (0, 1, 1, 0, 7)),
        ((1, -3, 0, 2, 1), (0, 0, 1, 1, 0)), ((1, 0, 0, 2, 1), (0, 1, 0, -3, 0), (0, 0, 2, 5, 1)),
        ((1, 0, 0, 0, 1), (0, 1, 0, 0, 2), (0, 0, 1, 0, 3), (0, 0, 0, 5, -4))),
}


def some_rows(dimension, many, seed):
    """Tuples of 0 to 5 small rows, many of them dependent, some that contradict each other."""
    random = Random(seed)
    for _ in range(many):
        rows = [tuple(random.randint(-2, 2) for _ in range(dimension + 1)) for _ in range(random.randint(0, 4))]
        if rows and random.random() < 0.5:
            one, other = random.choice(rows), random.choice(rows)
            rows.insert(random.randint(0, len(rows)), tuple(2 * a - 3 * b for a, b in zip(one, other)))
        yield tuple(rows)


def some_flats(dimension, many, seed):
    found = [flat_of(dimension, rows) for rows in some_rows(dimension, many, seed)]
    return [flat for flat in found if flat is not None] + list(FLATS[dimension])


def points_on(dimension, flat):
    """The flat_point of a flat, and it moved along each of its directions."""
    point = flat_point(dimension, flat)
    return [point] + [moved_by(point, direction, (3, 2)) for direction in flat_directions(dimension, flat)]


class FlatOf(SolidCase):

    def test_worked_by_hand(self):
        self.same(flat_of(1, ((4, 6),)), ((2, 3),))
        self.same(flat_of(1, ((4, 6), (2, 3))), ((2, 3),))
        self.same(flat_of(2, ((1, 1, -3), (1, -1, -1))), ((1, 0, -2), (0, 1, -1)))
        self.same(flat_of(2, ((1, -1, -1), (1, 1, -3))), ((1, 0, -2), (0, 1, -1)))
        self.same(flat_of(2, ((-2, -4, 6),)), ((1, 2, -3),))
        self.same(flat_of(3, ((0, 0, 2, 4), (1, 1, 1, 0))), ((1, 1, 0, -2), (0, 0, 1, 2)))
        self.same(flat_of(3, ((1, 2, 3, 4), (2, 4, 5, 6))), ((1, 2, 0, -2), (0, 0, 1, 2)))
        self.same(flat_of(3, ((2, 1, 0, 0), (0, 1, 3, 0))), ((2, 0, -3, 0), (0, 1, 3, 0)))
        self.same(flat_of(4, ((0, 0, 0, 2, 1), (0, 3, 0, 4, 1))), ((0, 3, 0, 0, -1), (0, 0, 0, 2, 1)))
        self.same(flat_of(dimension=2, rows=((0, 3, 3), (2, 0, 5))), ((2, 0, 5), (0, 1, 1)))

    def test_rows_of_noughts_ask_nothing(self):
        for dimension in DIMENSIONS:
            noughts = (0,) * (dimension + 1)
            self.same(flat_of(dimension, ()), ())
            self.same(flat_of(dimension, (noughts, noughts)), ())
            for flat in FLATS[dimension]:
                self.same(flat_of(dimension, (noughts,) + flat + (noughts,)), flat)

    def test_no_point(self):
        for dimension in DIMENSIONS:
            noughts = (0,) * dimension
            self.assertIsNone(flat_of(dimension, (noughts + (1,),)))
            self.assertIsNone(flat_of(dimension, (noughts + (-BIG,), noughts + (0,))))
            self.assertIsNone(flat_of(dimension, ((1,) * dimension + (1,), (2,) * dimension + (3,))))
        self.assertIsNone(flat_of(2, ((1, 0, 0), (0, 1, 0), (1, 1, -1))))
        self.assertIsNone(flat_of(3, ((1, 1, 0, 0), (0, 1, 1, 0), (1, 0, -1, 1))))

    def test_more_rows_than_needed(self):
        self.same(flat_of(2, ((1, 1, -3), (1, -1, -1), (2, 1, -5), (1, 0, -2))), ((1, 0, -2), (0, 1, -1)))
        self.same(flat_of(2, ((1, 1, -3),) * 40), ((1, 1, -3),))

    def test_great_numbers(self):
        self.same(flat_of(2, ((BIG, 1, 0), (0, OTHER_BIG, -1))), ((BIG * OTHER_BIG, 0, 1), (0, OTHER_BIG, -1)))
        self.same(flat_of(2, ((BIG, BIG, BIG), (OTHER_BIG, OTHER_BIG, OTHER_BIG))), ((1, 1, 1),))
        self.assertIsNone(flat_of(2, ((BIG, BIG, BIG), (OTHER_BIG, OTHER_BIG, OTHER_BIG + 1))))

    def test_it_is_reduced_and_has_the_same_points(self):
        for dimension in DIMENSIONS:
            for rows in some_rows(dimension, 250, dimension):
                flat = flat_of(dimension, rows)
                with_one = list(rows) + [(0,) * dimension + (1,)]
                if flat is None:
                    self.assertEqual(independent(with_one), independent(rows))
                else:
                    self.assertEqual(independent(with_one), independent(rows) + 1)
                    self.assertTrue(same_span(flat, rows))
                    self.assert_reduced(dimension, flat)

    def assert_reduced(self, dimension, flat):
        leading = []
        for row in flat:
            check_plane(dimension, row)
            leading.append(next(place for place in range(dimension) if row[place] != 0))
        self.assertEqual(leading, sorted(set(leading)))
        for row, place in product(flat, leading):
            self.assertEqual(row[place] != 0, place == leading[flat.index(row)])

    def test_each_flat_has_one_tuple(self):
        random = Random(3)
        for dimension in DIMENSIONS:
            for flat in some_flats(dimension, 60, 30 + dimension):
                rows = []
                for row in flat:
                    other = random.choice(flat)
                    factor = random.choice((1, -2, 5))
                    rows.append(tuple(a * factor + 3 * b for a, b in zip(row, other)))
                rows = tuple(rows) + flat
                self.same(flat_of(dimension, rows), flat)
                self.same(flat_of(dimension, rows[::-1]), flat)


class CheckFlat(SolidCase):

    def test_returns_flats(self):
        for dimension in DIMENSIONS:
            for flat in FLATS[dimension]:
                self.assertIs(check_flat(dimension, flat), flat)

    def test_refuses_no_tuple(self):
        for dimension in DIMENSIONS:
            for value in NO_TUPLES + ([(1,) + (0,) * dimension],):
                self.refused(NotRow, check_flat, dimension, value, place=-1)

    def test_tells_the_first_that_is_no_row(self):
        for dimension in DIMENSIONS:
            row = (1,) * (dimension + 1)
            wrong = NO_TUPLES + ((), row[1:], row + (1,), list(row), "a" * (dimension + 1))
            wrong += tuple((1,) * dimension + (value,) for value in NO_INTEGERS)
            wrong += tuple((value,) + (1,) * dimension for value in NO_INTEGERS)
            for thing in wrong:
                self.refused(NotRow, check_flat, dimension, (thing,), place=0)
                self.refused(NotRow, check_flat, dimension, (row, thing, None), place=1)
                self.refused(NotRow, check_flat, dimension, (row, row, row, thing), place=3)

    def test_refuses_rows_that_are_no_flat(self):
        for dimension in DIMENSIONS:
            noughts = (0,) * dimension
            for rows in ((noughts + (0,),), (noughts + (1,),), ((2,) * (dimension + 1),), ((-1,) + noughts,)):
                self.refused(NotRow, check_flat, dimension, rows, place=-2)
            for flat in FLATS[dimension][1:]:
                self.refused(NotRow, check_flat, dimension, flat + (flat[0],), place=-2)
                self.refused(NotRow, check_flat, dimension, flat + (noughts + (0,),), place=-2)
                self.refused(NotRow, check_flat, dimension, flat + (noughts + (1,),), place=-2)
                if len(flat) > 1:
                    self.refused(NotRow, check_flat, dimension, flat[::-1], place=-2)
        self.refused(NotRow, check_flat, 2, ((1, 1, 0), (0, 1, 0)), place=-2)
        self.refused(NotRow, check_flat, 2, ((1, 0, 0), (1, 0, 1)), place=-2)
        self.refused(NotRow, check_flat, 3, ((1, 0, 0, 0), (0, 1, 2, 0), (0, 0, 1, 0)), place=-2)


class Relations(SolidCase):

    def test_dimension(self):
        for dimension in DIMENSIONS:
            self.same(flat_dimension(dimension, ()), dimension)
            for flat in FLATS[dimension]:
                self.same(flat_dimension(dimension, flat), len(flat_directions(dimension, flat)))
        self.same(flat_dimension(3, ((1, 0, 0, 0), (0, 1, 0, 0), (0, 0, 1, 0))), 0)
        self.same(flat_dimension(4, ((1, 0, 0, 0, 0),)), 3)
        self.same(flat_dimension(dimension=2, flat=((1, 2, 3),)), 1)

    def test_on_flat(self):
        line = ((1, 0, -1, 0), (0, 1, 0, -2))
        self.same(on_flat(line, (0, 2, 0, 1)), True)
        self.same(on_flat(line, (1, 4, 1, 2)), True)
        self.same(on_flat(line, (1, 3, 1, 2)), False)
        self.same(on_flat(line, (1, 4, 2, 2)), False)
        self.same(on_flat(line, (3, 4, 3, 2)), True)
        self.same(on_flat(flat=(), point=(1, 2, 3)), True)
        self.same(on_flat(((BIG, -OTHER_BIG),), (OTHER_BIG, BIG)), True)
        self.same(on_flat(((BIG, -OTHER_BIG),), (OTHER_BIG, BIG + 1)), False)

    def test_flat_in(self):
        plane, line, point = ((1, 0, 0, 0),), ((1, 0, 0, 0), (0, 1, 0, -1)), ((1, 0, 0, 0), (0, 1, 0, -1), (0, 0, 1, 4))
        row = [(), plane, line, point]
        for one, other in product(range(4), repeat=2):
            self.same(flat_in(3, row[one], row[other]), one >= other)
        self.same(flat_in(3, line, ((0, 1, 0, -1),)), True)
        self.same(flat_in(3, line, ((0, 1, 0, 1),)), False)
        self.same(flat_in(3, line, ((0, 1, 1, -1),)), False)
        self.same(flat_in(dimension=1, flat=((1, 0),), other=()), True)

    def test_flat_in_by_points(self):
        for dimension in DIMENSIONS:
            flats = some_flats(dimension, 25, 70 + dimension)
            for flat, other in product(flats, repeat=2):
                wanted = all(on_flat(other, point) for point in points_on(dimension, flat))
                self.same(flat_in(dimension, flat, other), wanted)

    def test_flat_meet(self):
        self.same(flat_meet(2, ((1, 1, -3),), ((1, -1, -1),)), ((1, 0, -2), (0, 1, -1)))
        self.same(flat_meet(2, (), ((1, -1, -1),)), ((1, -1, -1),))
        self.same(flat_meet(2, ((1, -1, -1),), ()), ((1, -1, -1),))
        self.same(flat_meet(2, (), ()), ())
        self.assertIsNone(flat_meet(2, ((1, 1, -3),), ((1, 1, -2),)))
        self.assertIsNone(flat_meet(dimension=3, flat=((1, 0, 0, 0), (0, 1, 0, 0)), other=((1, 0, 0, 0), (0, 1, 0, 1))))
        self.assertIsNone(flat_meet(1, ((1, 0),), ((2, 1),)))

    def test_flat_meet_holds_the_points_of_both(self):
        for dimension in DIMENSIONS:
            for flat, other in combinations(some_flats(dimension, 25, 90 + dimension), 2):
                meet = flat_meet(dimension, flat, other)
                self.assertEqual(meet, flat_of(dimension, other + flat))
                if meet is not None:
                    self.assertTrue(same_span(meet, flat + other))
                    for point in points_on(dimension, meet):
                        self.assertTrue(on_flat(flat, point) and on_flat(other, point))


class Making(SolidCase):

    def test_flat_through(self):
        self.same(flat_through(((3, 2),)), ((2, -3),))
        self.same(flat_through(((3, 2), (1, 1))), ())
        self.same(flat_through(((1, 1, 1),)), ((1, 0, -1), (0, 1, -1)))
        self.same(flat_through(((0, 1, 1), (1, 0, 1))), ((1, 1, -1),))
        self.same(flat_through(((0, 1, 1), (1, 0, 1), (1, 1, 2))), ((1, 1, -1),))
        self.same(flat_through(((0, 1, 1), (1, 0, 1), (1, 1, 3))), ())
        self.same(flat_through(((0, 1, 1), (0, 1, 1))), ((1, 0, 0), (0, 1, -1)))
        self.same(flat_through(points=((1, 0, 0, 1), (0, 1, 0, 1), (0, 0, 1, 1))), ((1, 1, 1, -1),))
        self.same(flat_through(((1, 0, 0, 0, 2), (0, 0, 0, 0, 1))),
                  ((0, 1, 0, 0, 0), (0, 0, 1, 0, 0), (0, 0, 0, 1, 0)))

    def test_flat_through_is_the_smallest(self):
        random = Random(5)
        for dimension in DIMENSIONS:
            for flat in some_flats(dimension, 40, 110 + dimension):
                points = points_on(dimension, flat)
                self.same(flat_through(tuple(points)), flat)
                random.shuffle(points)
                found = flat_through(tuple(points[:2]))
                steps = [[a - b for a, b in zip(numbers_at(points[0]), numbers_at(p))] for p in points[:2]]
                self.assertEqual(flat_dimension(dimension, check_flat(dimension, found)), independent(steps))
                self.assertTrue(all(on_flat(found, point) for point in points[:2]))

    def test_flat_sum(self):
        self.same(flat_sum(1, ((1, -2),), ((2, 1),)), ((2, -3),))
        self.same(flat_sum(1, ((1, -2),), ()), ())
        self.same(flat_sum(2, ((1, 0, -1), (0, 1, -2)), ((1, 0, -3), (0, 1, -4))), ((1, 0, -4), (0, 1, -6)))
        self.same(flat_sum(2, ((1, 1, -1),), ((1, 1, -2),)), ((1, 1, -3),))
        self.same(flat_sum(2, ((1, 1, -1),), ((1, -1, 0),)), ())
        self.same(flat_sum(2, ((1, 1, -1),), ((1, 0, -1), (0, 2, 1))), ((2, 2, -3),))
        self.same(flat_sum(dimension=3, flat=((1, 0, 0, 0), (0, 1, 0, -1)), other=((0, 1, 0, -1), (0, 0, 1, 0))),
                  ((0, 1, 0, -2),))

    def test_flat_sum_holds_just_the_sums(self):
        for dimension in DIMENSIONS:
            for flat, other in combinations(some_flats(dimension, 20, 130 + dimension), 2):
                found = check_flat(dimension, flat_sum(dimension, flat, other))
                self.same(flat_sum(dimension, other, flat), found)
                for one, two in product(points_on(dimension, flat), points_on(dimension, other)):
                    numbers = [a + b for a, b in zip(numbers_at(one), numbers_at(two))]
                    self.assertTrue(all(worth(row, numbers) == 0 for row in found))
                directions = flat_directions(dimension, flat) + flat_directions(dimension, other)
                self.assertEqual(flat_dimension(dimension, found), independent(directions))

    def test_flat_beside(self):
        self.same(flat_beside(1, ((1, 0),), (3, 2)), ((2, -3),))
        self.same(flat_beside(1, (), (3, 2)), ())
        self.same(flat_beside(2, ((1, 1, -1),), (1, 2, 3)), ((1, 1, -1),))
        self.same(flat_beside(2, ((1, 1, -1),), (1, 2, 2)), ((2, 2, -3),))
        self.same(flat_beside(2, ((4, 0, 1), (0, 1, 0)), (1, 2, 2)), ((2, 0, -1), (0, 1, -1)))
        self.same(flat_beside(dimension=3, flat=((6, 9, 0, 1),), point=(0, 0, 5, 1)), ((2, 3, 0, 0),))

    def test_flat_beside_has_the_same_directions(self):
        for dimension in DIMENSIONS:
            for flat, other in product(some_flats(dimension, 20, 150 + dimension), FLATS[dimension]):
                point = flat_point(dimension, other)
                found = check_flat(dimension, flat_beside(dimension, flat, point))
                self.assertTrue(on_flat(found, point))
                self.same(flat_directions(dimension, found), flat_directions(dimension, flat))

    def test_flat_point(self):
        self.same(flat_point(1, ()), (0, 1))
        self.same(flat_point(1, ((2, -3),)), (3, 2))
        self.same(flat_point(2, ((2, -3, 5),)), (-5, 0, 2))
        self.same(flat_point(2, ((0, 3, 2),)), (0, -2, 3))
        self.same(flat_point(2, ((2, 0, -1), (0, 3, 2))), (3, -4, 6))
        self.same(flat_point(dimension=3, flat=((1, 5, 0, 2), (0, 0, 2, 1))), (-4, 0, -1, 2))
        self.same(flat_point(4, ()), (0, 0, 0, 0, 1))

    def test_flat_directions(self):
        self.same(flat_directions(1, ()), ((1,),))
        self.same(flat_directions(1, ((2, -3),)), ())
        self.same(flat_directions(2, ()), ((1, 0), (0, 1)))
        self.same(flat_directions(2, ((2, -3, 5),)), ((3, 2),))
        self.same(flat_directions(2, ((2, 3, 5),)), ((-3, 2),))
        self.same(flat_directions(2, ((0, 3, 2),)), ((1, 0),))
        self.same(flat_directions(3, ((2, 4, -6, 1),)), ((-2, 1, 0), (3, 0, 1)))
        self.same(flat_directions(3, ((3, 0, 1, 0), (0, 2, -1, 0))), ((-2, 3, 6),))
        self.same(flat_directions(dimension=4, flat=((1, 2, 0, 3, 0), (0, 0, 4, 2, 1))),
                  ((-2, 1, 0, 0), (-6, 0, -1, 2)))

    def test_points_and_directions_make_up_the_flat(self):
        for dimension in DIMENSIONS:
            for flat in some_flats(dimension, 60, 170 + dimension):
                leading = [next(place for place in range(dimension) if row[place] != 0) for row in flat]
                others = [place for place in range(dimension) if place not in leading]
                point = check_point(dimension, flat_point(dimension, flat))
                self.assertTrue(on_flat(flat, point))
                self.assertTrue(all(point[place] == 0 for place in others))
                directions = flat_directions(dimension, flat)
                self.assertEqual(len(directions), len(others))
                for place, direction in zip(others, directions):
                    check_direction(dimension, direction)
                    self.assertGreater(direction[place], 0)
                    self.assertTrue(all(direction[other] == 0 for other in others if other != place))
                    self.assertTrue(all(slope(row, direction) == 0 for row in flat))

    def test_each_point_of_a_flat_is_reached(self):
        # A point of the flat is told by its coordinates at the places that are no leading ones.
        flat = ((2, 4, 0, -6, 1), (0, 0, 3, 1, 0))
        start, directions = flat_point(4, flat), flat_directions(4, flat)
        for second, fourth in product((0, 1, -7, 5), repeat=2):
            first = (6 * fourth - 4 * second - 1, 2)
            point = point_of((pair(told(first)), (second, 1), pair(told((-fourth, 3))), (fourth, 1)))
            self.assertEqual([value_at(row, point) for row in flat], [(0, 1), (0, 1)])
            there = moved_by(start, directions[0], pair(told((second, directions[0][1]))))
            there = moved_by(there, directions[1], pair(told((fourth, directions[1][3]))))
            self.same(coordinates_of(there), coordinates_of(point))


if __name__ == "__main__":
    unittest.main()
