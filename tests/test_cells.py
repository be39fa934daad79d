"""Promise [27]: cells of planes."""

import unittest
from random import Random

from anew import reduced, whole
from arranged import SPECIAL, cells_anew, some_arrangements, some_planes
from helping import BIG, NO_INTEGERS, NO_TUPLES, OTHER_BIG, SolidCase
from making import small_points
from onesolid.cells import cell_dimension, cell_flat, cells_of, check_cell, check_planes, is_cell, point_in
from onesolid.errors import NotForm, TooGreat
from onesolid.points import check_point
from onesolid.rows import signs_at

MOST = {1: 60, 2: 24, 3: 16}
DIMENSIONS = (1, 2, 3)


def many_planes(dimension, many):
    return tuple((1,) + (0,) * (dimension - 1) + (k,) for k in range(many))


def arrangements(dimension, many, most, seed):
    yield from SPECIAL[dimension]
    yield from some_arrangements(dimension, many, most, seed)


class CheckPlanes(SolidCase):

    def test_planes(self):
        for dimension in DIMENSIONS:
            for planes in arrangements(dimension, 20, 6, 1):
                self.assertIs(check_planes(dimension, planes), planes)
            planes = many_planes(dimension, MOST[dimension])[::-1]
            self.assertIs(check_planes(dimension=dimension, value=planes), planes)

    def test_too_many(self):
        for dimension, most in MOST.items():
            for more in (1, 7):
                self.refused(TooGreat, check_planes, dimension, many_planes(dimension, most + more), most=most)
            planes = many_planes(dimension, most)
            self.refused(NotForm, check_planes, dimension, planes + planes[:1], word="planes")
            self.refused(NotForm, check_planes, dimension, planes + planes[-1:] * 9, word="planes")
            self.refused(NotForm, check_planes, dimension, planes + (None,), word="planes")
            self.refused(NotForm, check_planes, dimension, planes + ((2,) + (0,) * dimension,), word="planes")

    def test_no_planes(self):
        for value in NO_TUPLES + ([], [(1, 0)]):
            self.refused(NotForm, check_planes, 1, value, word="planes")
        for value in NO_TUPLES + ((), (1,), (1, 0, 0), (0, 0), (0, 1), (2, 4), (-1, 3), [1, 0], (True, 0), (1, False)):
            self.refused(NotForm, check_planes, 1, (value,), word="planes")
            self.refused(NotForm, check_planes, 1, ((1, 5), value), word="planes")
        for value in NO_INTEGERS:
            self.refused(NotForm, check_planes, 2, ((1, 0, value),), word="planes")
        self.refused(NotForm, check_planes, 1, ((1, 0), (1, 1), (1, 0)), word="planes")
        self.refused(NotForm, check_planes, 2, ((1, 0),), word="planes")


class CellsOf(SolidCase):

    def test_worked_by_hand(self):
        for dimension in DIMENSIONS:
            self.same(cells_of(dimension, ()), ((),))
        self.same(cells_of(1, ((1, 0),)), ((-1,), (0,), (1,)))
        self.same(cells_of(1, ((2, -1), (1, 0))), ((-1, -1), (-1, 0), (-1, 1), (0, 1), (1, 1)))
        self.same(cells_of(2, ((1, 1, 0), (1, 1, 1))), ((-1, -1), (-1, 0), (-1, 1), (0, 1), (1, 1)))
        self.same(cells_of(dimension=2, planes=((1, 0, 0), (0, 1, 0))),
                  tuple((a, b) for a in (-1, 0, 1) for b in (-1, 0, 1)))
        found = cells_of(2, ((1, 0, 0), (0, 1, 0), (1, 1, 0)))
        self.assertEqual(len(found), 13)
        self.assertIn((0, 0, 0), found)
        self.assertNotIn((0, 0, 1), found)
        self.assertNotIn((1, 1, -1), found)

    def test_told_anew(self):
        for dimension in DIMENSIONS:
            for planes in arrangements(dimension, 25, 5, 2):
                self.same(cells_of(dimension, planes), cells_anew(dimension, planes))

    def test_the_order_of_planes(self):
        random = Random(3)
        for dimension in DIMENSIONS:
            for planes in some_arrangements(dimension, 10, 8, 4):
                order = list(range(len(planes)))
                random.shuffle(order)
                turned = [tuple(signs[k] for k in order) for signs in cells_of(dimension, planes)]
                self.same(cells_of(dimension, tuple(planes[k] for k in order)), tuple(sorted(turned)))

    def test_each_point_belongs_to_one(self):
        for dimension in DIMENSIONS:
            points = small_points(dimension, 40, 5)
            for planes in arrangements(dimension, 15, 8, 6):
                found = set(cells_of(dimension, planes))
                for point in points:
                    self.assertIn(signs_at(planes, point), found)

    def test_how_many_there_are(self):
        """Of planes in any but special positions, and of the cells of even dimension less those of odd dimension."""
        for dimension, wanted in ((1, [60, 61]), (2, [276, 24 * 24, 301]), (3, [560, 120 * 15, 16 * 121, 697])):
            many = MOST[dimension]
            planes = tuple(tuple((k + 1) ** power for power in range(dimension)) + (k ** 3 * 7 + 1,)
                           for k in range(many))
            found = cells_of(dimension, planes)
            self.assertEqual(len(set(found)), len(found))
            counts = [0] * (dimension + 1)
            for signs in found:
                counts[cell_dimension(dimension, planes, signs)] += 1
            self.assertEqual(counts, wanted)
        for dimension in DIMENSIONS:
            for planes in arrangements(dimension, 20, 9, 7):
                found = cells_of(dimension, planes)
                total = sum((-1) ** cell_dimension(dimension, planes, signs) for signs in found)
                self.assertEqual(total, (-1) ** dimension)

    def test_many_through_one_point(self):
        planes = tuple((1, k, k * k, 0) for k in range(1, 17))
        self.assertEqual(len(cells_of(3, planes)), 1 + 2 * 120 + 2 * 2 * 120 + 2 + 240)
        planes = tuple((1, k, 0) for k in range(24))
        self.assertEqual(len(cells_of(2, planes)), 97)
        planes = tuple((1, k, 0, 0) for k in range(1, 16)) + ((0, 0, 1, 5),)
        self.assertEqual(len(cells_of(3, planes)), 61 * 3)

    def test_great_numbers(self):
        self.same(cells_of(1, ((BIG, -1), (BIG, -2))), ((-1, -1), (0, -1), (1, -1), (1, 0), (1, 1)))
        self.assertEqual(len(cells_of(2, ((BIG, 1, 0), (1, OTHER_BIG, 0), (1, 1, 1)))), 19)

    def test_beyond_the_most(self):
        self.assertEqual(len(cells_of(2, many_planes(2, 25))), 51)
        self.assertEqual(len(cells_of(1, many_planes(1, 61))), 123)


class IsCell(SolidCase):

    def test_cells_and_others(self):
        random = Random(8)
        for dimension in DIMENSIONS:
            for planes in arrangements(dimension, 15, 6, 9):
                found = set(cells_of(dimension, planes))
                for signs in found:
                    self.same(is_cell(dimension=dimension, planes=planes, value=signs), True)
                    self.assertIs(check_cell(dimension=dimension, planes=planes, value=signs), signs)
                for _ in range(40):
                    signs = tuple(random.choice((-1, 0, 1)) for _ in planes)
                    self.same(is_cell(dimension, planes, signs), signs in found)
                    if signs not in found:
                        self.refused(NotForm, check_cell, dimension, planes, signs, word="cell")

    def test_no_signs(self):
        planes = ((1, 0, 0), (0, 1, 0))
        for value in NO_TUPLES + ((), (1,), (1, 1, 1), (0, 2), (-2, 0), [1, 1], (1, (1,)), ((1, 1),)):
            self.same(is_cell(2, planes, value), False)
            self.refused(NotForm, check_cell, 2, planes, value, word="cell")
        for value in NO_INTEGERS:
            self.same(is_cell(2, planes, (1, value)), False)
            self.same(is_cell(2, planes, (value, 0)), False)
            self.refused(NotForm, check_cell, 2, planes, (value, 1), word="cell")
        for value in NO_TUPLES + ((0,), (1,)):
            self.same(is_cell(1, (), value), False)
        self.same(is_cell(1, (), ()), True)
        self.same(check_cell(3, (), ()), ())


class PointsAndFlats(SolidCase):

    def test_points(self):
        for dimension in DIMENSIONS:
            for planes in arrangements(dimension, 15, 7, 10):
                for signs in cells_of(dimension, planes):
                    point = check_point(dimension, point_in(dimension=dimension, planes=planes, signs=signs))
                    self.same(signs_at(planes, point), signs)
                    self.same(point_in(dimension, planes, signs), point)

    def test_flats(self):
        for dimension in DIMENSIONS:
            for planes in arrangements(dimension, 15, 6, 11):
                for signs in cells_of(dimension, planes):
                    rows = reduced([plane for plane, sign in zip(planes, signs) if sign == 0])
                    wanted = tuple(whole(row) for row in rows)
                    self.same(cell_flat(dimension=dimension, planes=planes, signs=signs), wanted)
                    self.same(cell_dimension(dimension=dimension, planes=planes, signs=signs), dimension - len(wanted))

    def test_worked_by_hand(self):
        planes = ((1, 0, -2), (0, 2, 1), (1, 1, 0))
        self.same(cell_flat(2, planes, (1, 1, 1)), ())
        self.same(cell_flat(2, planes, (-1, 1, 0)), ((1, 1, 0),))
        self.same(cell_flat(2, planes, (0, 0, 1)), ((1, 0, -2), (0, 2, 1)))
        self.same(cell_flat(2, planes, (0, -1, 0)), ((1, 0, -2), (0, 1, 2)))
        self.same(point_in(2, planes, (0, 0, 1)), (4, -1, 2))
        self.same(cell_dimension(3, (), ()), 3)

    def test_as_many_planes_as_may_be(self):
        random = Random(12)
        for dimension in DIMENSIONS:
            planes = some_planes(random, dimension, min(MOST[dimension], 12 if dimension == 1 else 99))
            found = cells_of(dimension, planes)
            for signs in found[::max(1, len(found) // 60)]:
                self.same(signs_at(planes, point_in(dimension, planes, signs)), signs)


if __name__ == "__main__":
    unittest.main()
