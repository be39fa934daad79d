"""Promise [40]: points that belong to just one of two sets."""

import unittest
from random import Random

from formed import ALL, EMPTY, box, lone, points_of_line, some_forms, told_forms
from helping import NO_INTEGERS, NO_TUPLES, SolidCase
from making import small_points
from onesolid.cells import cells_of
from onesolid.deeds import less, rest
from onesolid.errors import NotPaper, TooGreat, Unlike
from onesolid.forms import form_from, form_of, has_point
from onesolid.images import shifted
from onesolid.partings import check_parting, parting
from onesolid.points import check_point

DIMENSIONS = (1, 2, 3)


class Parting(SolidCase):

    def parted(self, form, other):
        """There is a point of just one of the sets, and it is right."""
        point = parting(form, other)
        check_point(form[0], point)
        self.assertNotEqual(has_point(form, point), has_point(other, point))
        self.assertIs(check_parting(form, other, point), True)
        self.same(parting(form, other), point)

    def test_equal_sets(self):
        one = form_of(2, lone(0, 0))
        other = form_of(2, ("and", ("is", "eq", (1, 1, 0)), ("is", "eq", (1, -1, 0))))
        self.same(parting(form=one, other=other), None)
        for dimension in DIMENSIONS:
            for form in (EMPTY[dimension], ALL[dimension]):
                self.same(parting(form, form), None)

    def test_unlike_sets(self):
        random = Random(160)
        for dimension in DIMENSIONS:
            self.parted(EMPTY[dimension], ALL[dimension])
            forms = [EMPTY[dimension], ALL[dimension]]
            forms += list(some_forms(dimension, 25, 6, 161)) + list(told_forms(dimension, 25, 162))
            for _ in range(120):
                one, other = random.choice(forms), random.choice(forms)
                if one == other:
                    self.same(parting(one, other), None)
                else:
                    self.parted(one, other)

    def test_small_differences(self):
        random = Random(163)
        for dimension in DIMENSIONS:
            for form in list(some_forms(dimension, 15, 5, 164)):
                self.parted(form, rest(form))
                # A cell more or less.
                signs = random.choice(cells_of(dimension, form[1]))
                try:
                    other = form_from(dimension, form[1], tuple(sorted(set(form[2]) ^ {signs})))
                except TooGreat:
                    continue
                self.parted(form, other)
                # A point more or less, anywhere.
                point = small_points(dimension, 1, random.random())[0]
                try:
                    pricked = less(form, shifted(form_of(dimension, lone(*[0] * dimension)), point))
                except TooGreat:
                    continue
                if has_point(form, point):
                    self.same(parting(form, pricked), point)
                else:
                    self.same(parting(form, pricked), None)

    def test_open_and_closed(self):
        square, bare = form_of(2, box(2)), form_of(2, box(2, 0, 1, ("gt", "lt")))
        self.parted(square, bare)
        self.parted(bare, square)
        corner = form_of(2, ("and", box(2), ("not", lone(1, 1))))
        self.same(parting(corner, square), (1, 1, 1))
        self.same(parting(square, corner), (1, 1, 1))

    def test_more_planes_than_may_be_looked_at(self):
        one, other = points_of_line(range(60)), points_of_line(range(1, 61))
        self.parted(one, other)
        planes = tuple((1, k, k * k, k ** 3 * 7 + 1) for k in range(1, 17))
        others = tuple((1, k, -k * k, 3 * k + 1) for k in range(1, 17))
        sets = [form_from(3, some, tuple(signs for signs in cells_of(3, some) if 0 not in signs))
                for some in (planes, others)]
        self.parted(sets[0], sets[1])

    def test_unlike_dimensions(self):
        self.refused(Unlike, parting, EMPTY[1], EMPTY[2])
        self.refused(Unlike, parting, ALL[3], form_of(1, box(1)))


class CheckParting(SolidCase):

    def test_points(self):
        one, other = form_of(1, box(1, 0, 2)), form_of(1, box(1, 1, 3, ("ge", "lt")))
        for numbers, wanted in (((0, 1), True), ((1, 2), True), ((1, 1), False), ((2, 1), False), ((5, 2), True),
                                ((3, 1), False), ((7, 2), False), ((-1, 1), False)):
            if wanted:
                self.assertIs(check_parting(form=one, other=other, value=numbers), True)
            else:
                self.refused(NotPaper, check_parting, one, other, numbers, word="parting")
        # No point belongs to just one of equal sets.
        for point in small_points(2, 20, 165):
            self.refused(NotPaper, check_parting, ALL[2], ALL[2], point, word="parting")

    def test_no_points(self):
        one, other = EMPTY[2], ALL[2]
        for value in NO_TUPLES + ((), (1, 1), (0, 0, 0, 1), (0, 0, 0), (1, 1, -1), (2, 4, 2)):
            self.refused(NotPaper, check_parting, one, other, value, word="form")
            self.refused(NotPaper, check_parting, one, one, value, word="form")
            self.refused(Unlike, check_parting, one, ALL[1], value)
        for value in NO_INTEGERS:
            self.refused(NotPaper, check_parting, one, other, (value, 1, 1), word="form")
            self.refused(NotPaper, check_parting, one, other, (1, 1, value), word="form")
        self.refused(Unlike, check_parting, EMPTY[1], EMPTY[3], (0, 1))


if __name__ == "__main__":
    unittest.main()
