"""Promises [31] and [32]: meets, their weights, and the numbers of cells that these tell."""

import unittest
from itertools import combinations

from anew import reduced, whole
from arranged import SPECIAL, some_arrangements
from helping import SolidCase
from onesolid.cells import cell_dimension, cell_flat, cells_of
from onesolid.counts import bounded_counts, cell_counts, cells_on
from onesolid.endless import is_cell_bounded
from onesolid.errors import NotForm
from onesolid.flats import check_flat, flat_dimension, flat_in
from onesolid.meets import meet_weights, meets_of

DIMENSIONS = (1, 2, 3)
LINES = ((1, 0, 0), (0, 1, 0), (1, 1, -1))
CORNERS = (((1, 0, -1), (0, 1, 0)), ((1, 0, 0), (0, 1, -1)), ((1, 0, 0), (0, 1, 0)))


def arrangements(dimension, many, most, seed):
    yield from SPECIAL[dimension]
    yield from some_arrangements(dimension, many, most, seed)


def meets_anew(dimension, planes):
    """All intersections of some of the planes."""
    found = set()
    for many in range(len(planes) + 1):
        for lot in combinations(planes, many):
            rows = reduced(lot)
            if not rows or any(rows[-1][:-1]):
                found.add(tuple(whole(row) for row in rows))
    return tuple(sorted(found, key=lambda flat: (len(flat), flat)))


class Meets(SolidCase):

    def test_worked_by_hand(self):
        for dimension in DIMENSIONS:
            self.same(meets_of(dimension, ()), ((),))
        self.same(meets_of(1, ((3, -1), (1, 0))), ((), ((1, 0),), ((3, -1),)))
        self.same(meets_of(2, ((1, 1, 5), (1, 1, 0))), ((), ((1, 1, 0),), ((1, 1, 5),)))
        self.same(meets_of(dimension=2, planes=LINES),
                  ((), ((0, 1, 0),), ((1, 0, 0),), ((1, 1, -1),),
                   ((1, 0, -1), (0, 1, 0)), ((1, 0, 0), (0, 1, -1)), ((1, 0, 0), (0, 1, 0))))
        # Three planes through one line meet in it alone.
        self.same(meets_of(3, ((1, 0, 0, 0), (0, 1, 0, 0), (1, 1, 0, 0)))[4:], (((1, 0, 0, 0), (0, 1, 0, 0)),))

    def test_told_anew(self):
        for dimension in DIMENSIONS:
            for planes in arrangements(dimension, 25, 7, 50):
                found = meets_of(dimension, planes)
                self.same(found, meets_anew(dimension, planes))
                for flat in found:
                    check_flat(dimension, flat)
                self.same(meets_of(dimension, planes[::-1]), found)

    def test_many_through_one_point(self):
        planes = tuple((1, k, k * k, 0) for k in range(1, 17))
        found = meets_of(3, planes)
        self.assertEqual([len([flat for flat in found if len(flat) == many]) for many in range(4)], [1, 16, 120, 1])
        planes = tuple((1, k, 0) for k in range(24))
        self.assertEqual(len(meets_of(2, planes)), 26)


class Weights(SolidCase):

    def test_worked_by_hand(self):
        for dimension in DIMENSIONS:
            self.same(meet_weights(dimension, (), ()), (((), 1),))
        self.same(meet_weights(dimension=2, planes=LINES, flat=()),
                  (((), 1), (((0, 1, 0),), -1), (((1, 0, 0),), -1), (((1, 1, -1),), -1))
                  + tuple((corner, 1) for corner in CORNERS))
        self.same(meet_weights(2, LINES, ((1, 0, 0),)),
                  ((((1, 0, 0),), 1), (CORNERS[1], -1), (CORNERS[2], -1)))
        self.same(meet_weights(2, LINES, CORNERS[0]), ((CORNERS[0], 1),))
        # Of four lines through one point, and of parallel ones.
        planes = ((1, 0, 0), (0, 1, 0), (1, 1, 0), (1, -1, 0))
        self.same([weight for _, weight in meet_weights(2, planes, ())], [1, -1, -1, -1, -1, 3])
        self.same([weight for _, weight in meet_weights(2, ((1, 1, 0), (1, 1, 1), (1, 1, 7)), ())], [1, -1, -1, -1])

    def test_told_anew(self):
        for dimension in DIMENSIONS:
            for planes in arrangements(dimension, 12, 6, 51):
                meets = meets_of(dimension, planes)
                for flat in meets:
                    found = meet_weights(dimension, planes, flat)
                    self.same(tuple(meet for meet, _ in found),
                              tuple(meet for meet in meets if flat_in(dimension, meet, flat)))
                    known = dict(found)
                    self.assertEqual(known[flat], 1)
                    for meet in known:
                        above = [known[other] for other in known if flat_in(dimension, meet, other)]
                        self.assertEqual(sum(above), 1 if meet == flat else 0)

    def test_no_meet(self):
        for flat in (((1, 0, 1),), ((1, 0, 0), (0, 1, 5)), ((1, 1, 0),), ((1, 0, 0), (0, 1, 1))):
            self.refused(NotForm, meet_weights, 2, LINES, flat, word="meet")
        self.refused(NotForm, meet_weights, 2, (), ((1, 0, 0),), word="meet")
        self.refused(NotForm, meet_weights, 1, ((1, 0), (1, 1)), ((1, 2),), word="meet")
        self.refused(NotForm, meet_weights, 3, ((1, 0, 0, 0), (1, 0, 0, 1)), ((1, 0, 0, 0), (0, 1, 0, 0)), word="meet")


class Counts(SolidCase):

    def test_worked_by_hand(self):
        for dimension in DIMENSIONS:
            self.same(cell_counts(dimension, ()), (0,) * dimension + (1,))
            self.same(bounded_counts(dimension, ()), (0,) * (dimension + 1))
            self.same(cells_on(dimension, (), ()), 1)
        self.same(cell_counts(1, ((1, 0), (1, 1), (2, 1))), (3, 4))
        self.same(bounded_counts(1, ((1, 0), (1, 1), (2, 1))), (3, 2))
        self.same(cell_counts(dimension=2, planes=LINES), (3, 9, 7))
        self.same(bounded_counts(dimension=2, planes=LINES), (3, 3, 1))
        self.same(cells_on(dimension=2, planes=LINES, flat=()), 7)
        self.same(cells_on(2, LINES, ((1, 0, 0),)), 3)
        self.same(cells_on(2, LINES, CORNERS[0]), 1)
        self.same(bounded_counts(2, ((1, 0, 0), (0, 1, 0), (1, 1, 0))), (1, 0, 0))

    def test_no_meet(self):
        for flat in (((1, 0, 1),), ((1, 0, 0), (0, 1, 5)), ((1, 1, 0),)):
            self.same(cells_on(2, LINES, flat), 0)
        self.same(cells_on(1, (), ((1, 0),)), 0)

    def test_parallel_planes(self):
        self.same(cell_counts(2, ((1, 1, 0), (1, 1, 1), (1, 1, 7))), (0, 3, 4))
        self.same(bounded_counts(2, ((1, 1, 0), (1, 1, 1), (1, 1, 7))), (0, 0, 0))
        self.same(cell_counts(3, ((0, 0, 1, 0), (0, 0, 1, 1), (0, 1, 0, 0))), (0, 2, 7, 6))
        self.same(bounded_counts(3, ((0, 0, 1, 0), (0, 0, 1, 1), (0, 1, 0, 0))), (0, 0, 0, 0))

    def test_against_the_cells(self):
        for dimension in DIMENSIONS:
            for planes in arrangements(dimension, 15, 7, 52):
                counts = [0] * (dimension + 1)
                bounded = [0] * (dimension + 1)
                flats = {}
                for signs in cells_of(dimension, planes):
                    own = cell_dimension(dimension, planes, signs)
                    counts[own] += 1
                    bounded[own] += is_cell_bounded(dimension, planes, signs)
                    flat = cell_flat(dimension, planes, signs)
                    flats[flat] = flats.get(flat, 0) + 1
                self.same(cell_counts(dimension, planes), tuple(counts))
                self.same(bounded_counts(dimension, planes), tuple(bounded))
                for flat in meets_of(dimension, planes):
                    self.same(cells_on(dimension, planes, flat), flats[flat])

    def test_facts_on_the_sums(self):
        for dimension in DIMENSIONS:
            for planes in arrangements(dimension, 30, 10, 53):
                counts = cell_counts(dimension, planes)
                self.assertEqual(sum((-1) ** own * many for own, many in enumerate(counts)), (-1) ** dimension)
                bounded = bounded_counts(dimension, planes)
                total = sum((-1) ** own * many for own, many in enumerate(bounded))
                has_point = any(flat_dimension(dimension, flat) == 0 for flat in meets_of(dimension, planes))
                self.assertEqual(total, 1 if has_point else 0)
                self.assertEqual(any(bounded), has_point)

    def test_as_many_planes_as_may_be(self):
        for dimension, many, wanted in ((1, 60, (60, 61)), (2, 24, (276, 576, 301)), (3, 16, (560, 1800, 1936, 697))):
            planes = tuple(tuple((k + 1) ** power for power in range(dimension)) + (k ** 3 * 7 + 1,)
                           for k in range(many))
            self.same(cell_counts(dimension, planes), wanted)
            self.assertEqual(sum(bounded_counts(dimension, planes)), {1: 119, 2: 276 + 528 + 253,
                                                                      3: 560 + 1560 + 1456 + 455}[dimension])


if __name__ == "__main__":
    unittest.main()
