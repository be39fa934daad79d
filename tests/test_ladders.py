"""Promise [46]: ladders on two sets, and common points of hulls."""

import unittest
from itertools import combinations
from random import Random

from formed import ALL, EMPTY, box, lone, pairs_of, points_of_line, some_forms, told_forms, unit
from helping import NO_INTEGERS, NO_TUPLES, SolidCase
from onesolid.common import common_point
from onesolid.deeds import both, either, inner, rest
from onesolid.errors import NotPaper, TooGreat, Unlike
from onesolid.forms import form_from, form_of, has_point
from onesolid.hulls import hull_of, in_hull, is_convex
from onesolid.ladders import check_parted, is_ladder, parted
from onesolid.points import check_point
from onesolid.cells import cells_of
from onesolid.rows import check_row
from spanned import is_ladder_anew

DIMENSIONS = (1, 2, 3)


def stretch(low, high, words=("ge", "le")):
    return form_of(1, box(1, low, high, words))


def half(row, word="ge"):
    return form_of(len(row) - 1, ("is", word, row))


class Parted(SolidCase):

    def judge(self, one, other):
        """What the paper shows, judged anew."""
        dimension = one[0]
        paper = parted(one, other)
        self.same(parted(one, other), paper)
        self.assertEqual(len(paper), 2)
        self.assertIs(check_parted(one, other, paper), paper[0] == "point")
        if paper[0] == "point":
            check_point(dimension, paper[1])
            for form in (one, other):
                self.assertEqual(in_hull(form, paper[1])[0], "in")
            return True
        self.assertEqual(paper[0], "ladder")
        self.assertLessEqual(len(paper[1]), dimension)
        for row in paper[1]:
            check_row(dimension, row)
        self.assertTrue(is_ladder_anew(dimension, pairs_of(one), pairs_of(other), paper[1]))
        self.assertIs(is_ladder(one, other, paper[1]), True)
        return False

    def test_stretches(self):
        for one, other, wanted in ((stretch(0, 1), stretch(1, 2), True), (stretch(0, 1), stretch(2, 3), False),
                                   (stretch(0, 1, ("ge", "lt")), stretch(1, 2), False),
                                   (stretch(0, 1, ("ge", "lt")), stretch(1, 2, ("gt", "le")), False),
                                   (stretch(0, 2, ("gt", "lt")), stretch(1, 3), True),
                                   (points_of_line((0, 5)), stretch(2, 3), True),
                                   (points_of_line((0, 5)), points_of_line((5, 7)), True),
                                   (points_of_line((0, 5)), points_of_line((6, 7)), False)):
            self.assertIs(self.judge(one, other), wanted)
            self.assertIs(self.judge(other, one), wanted)
        self.same(parted(form=stretch(0, 1), other=stretch(1, 2)), ("point", (1, 1)))

    def test_empty_and_whole(self):
        for dimension in DIMENSIONS:
            for form in [EMPTY[dimension], ALL[dimension]] + list(some_forms(dimension, 6, 4, 200)):
                self.same(parted(EMPTY[dimension], form), ("ladder", ()))
                self.same(parted(form, EMPTY[dimension]), ("ladder", ()))
                self.assertIs(self.judge(ALL[dimension], form), form != EMPTY[dimension])

    def test_half_planes(self):
        # Parallel ones, open and closed, and ones that touch.
        for word, wanted in (("ge", True), ("gt", False)):
            self.assertIs(self.judge(half((1, 1, 0)), half((-1, -1, 0), word)), wanted)
            self.assertIs(self.judge(half((1, 1, 0), word), half((-1, -1, 0), "gt")), False)
            self.assertIs(self.judge(half((1, 1, -1), word), half((-1, -1, 0), word)), False)
            self.assertIs(self.judge(half((1, 1, 1), word), half((-1, -1, 0), word)), True)
            self.assertIs(self.judge(half((0, 0, 1, 0), word), half((0, 0, -1, 0))), wanted)
        self.assertIs(self.judge(half((1, 0, 0)), half((0, -1, 0))), True)

    def test_sets_that_touch(self):
        square = form_of(2, box(2))
        beside = form_of(2, ("and", ("is", "ge", (1, 0, -1)), ("is", "le", (1, 0, -2)), ("is", "ge", (0, 1, -1))))
        self.assertIs(self.judge(square, beside), True)
        self.assertIs(self.judge(inner(square), beside), False)
        without_corner = form_of(2, ("and", box(2), ("not", lone(1, 1))))
        self.assertIs(self.judge(without_corner, beside), False)
        self.assertEqual(len(parted(without_corner, beside)[1]), 2)
        # The hull holds the missing corner if there are points beyond it.
        self.assertIs(self.judge(either(without_corner, form_of(2, lone(2, 2))), beside), True)

    def test_ladders_with_as_many_rows_as_dimensions(self):
        for dimension in DIMENSIONS:
            parts = []
            for place in range(dimension):
                zero = tuple(("is", "eq", unit(dimension, own)) for own in range(place))
                parts.append(("and",) + zero + (("is", "gt", unit(dimension, place)),))
            above = form_of(dimension, ("or",) + tuple(parts))
            self.assertIs(is_convex(above), True)
            below = rest(above)
            self.assertIs(self.judge(above, below), False)
            self.assertEqual(len(parted(above, below)[1]), dimension)
            self.assertIs(self.judge(below, above), False)
            ladder = tuple(unit(dimension, place) for place in range(dimension))
            self.assertIs(is_ladder(above, below, ladder), True)
            self.assertIs(is_ladder(above, below, ladder[:-1]), False)
            self.assertIs(is_ladder(below, above, ladder), False)

    def test_there_is_a_ladder_or_a_point(self):
        random = Random(201)
        sorts = {True: 0, False: 0}
        for dimension, many in ((1, 40), (2, 60), (3, 40)):
            forms = list(some_forms(dimension, 30, 4, 202)) + list(told_forms(dimension, 40, 203))
            for _ in range(many):
                one, other = random.choice(forms), random.choice(forms)
                found = self.judge(one, other)
                sorts[found] += 1
                try:
                    common = both(hull_of(one), hull_of(other))
                except TooGreat:
                    continue
                self.assertIs(found, common != EMPTY[dimension])
        self.assertTrue(min(sorts.values()) > 25)

    def test_unlike_dimensions(self):
        self.refused(Unlike, parted, EMPTY[1], EMPTY[2])
        self.refused(Unlike, is_ladder, EMPTY[1], EMPTY[2], ())
        self.refused(Unlike, is_ladder, EMPTY[3], EMPTY[2], None)
        self.refused(Unlike, check_parted, EMPTY[1], EMPTY[2], None)
        self.refused(Unlike, check_parted, ALL[1], ALL[3], ("point", (0, 1)))


class IsLadder(SolidCase):

    def test_right_ladders(self):
        one, other = half((1, 0, 0), "gt"), half((1, 0, 0), "le")
        self.same(is_ladder(form=one, other=other, ladder=((1, 0, 0),)), True)
        self.same(is_ladder(one, half((1, 0, 1), "lt"), ((2, 0, 1),)), True)
        self.same(is_ladder(one, half((1, 0, 1), "lt"), ((1, 0, 1),)), True)
        for dimension in DIMENSIONS:
            self.same(is_ladder(EMPTY[dimension], ALL[dimension], ()), True)
            self.same(is_ladder(ALL[dimension], EMPTY[dimension], ()), True)
            self.same(is_ladder(EMPTY[dimension], EMPTY[dimension], ()), True)
            self.same(is_ladder(ALL[dimension], ALL[dimension], ()), False)
            # Of an empty set everything is so.
            self.same(is_ladder(EMPTY[dimension], form_of(dimension, lone(*[0] * dimension)),
                                (unit(dimension, 0),)), True)
            self.same(is_ladder(EMPTY[dimension], ALL[dimension], (unit(dimension, 0),)), False)
        points = form_of(2, lone(0, 0)), form_of(2, lone(0, 1))
        self.same(is_ladder(points[0], points[1], ((1, 0, 0), (0, -2, 1))), True)
        self.same(is_ladder(points[0], points[1], ((1, 0, 0), (0, -1, 0))), True)
        self.same(is_ladder(points[0], points[1], ((1, 0, 0), (0, -1, 1))), True)
        self.same(is_ladder(points[0], points[1], ((1, 0, 0), (0, 1, 0))), False)
        self.same(is_ladder(points[0], points[1], ((1, 0, 0),)), False)

    def test_bent_at_one_place(self):
        one, other = half((1, 0, 0), "gt"), half((1, 0, 0), "le")
        for ladder in (((1, 0, 0),) * 3, ((2, 0, 0),), ((-1, 0, 0),), ((1, 0, 1),), ((1, 0, -1),), ((1, 1, 0),),
                       ((0, 1, 0),), ((0, 0, 1),), ((0, 0, 0),), (), ((1, 0, 0), (0, 0, 1)), ((1, 0, 0), (0, 2, 0)),
                       ((1, 0),), ((1, 0, 0, 0),), ((1, 0, True),), ([1, 0, 0],), (None,), (1, 0, 0),
                       ((1, 0, 0), None), [(1, 0, 0)]):
            self.same(is_ladder(one, other, ladder), False)
        for value in NO_TUPLES:
            self.same(is_ladder(one, other, value), False)
            self.same(is_ladder(EMPTY[2], EMPTY[2], value), False)
        for value in NO_INTEGERS:
            self.same(is_ladder(one, other, ((1, 0, value),)), False)
        # What is no ladder whatever the sets are.
        for ladder in (((2, 0, 0),), ((0, 0, 1),), ((1, 0, 0), (0, 1, 0), (1, 1, 0)), ((1, 0),)):
            self.same(is_ladder(EMPTY[2], EMPTY[2], ladder), False)

    def test_told_anew(self):
        random = Random(204)
        sorts = {True: 0, False: 0}
        for dimension in DIMENSIONS:
            forms = [form for form in some_forms(dimension, 40, 3, 205) if len(form[2]) < 8]
            forms += [half(unit(dimension, place, 1), word) for place in range(dimension) for word in ("lt", "ge")]
            for _ in range(150):
                one, other = random.choice(forms), random.choice(forms)
                rows = tuple(tuple(random.choice((-1, 0, 0, 1)) for _ in range(dimension)) + (random.choice((0, 1)),)
                             for _ in range(random.randint(1, dimension)))
                if all(any(row[:-1]) for row in rows):
                    wanted = is_ladder_anew(dimension, pairs_of(one), pairs_of(other), rows)
                    self.assertIs(is_ladder(one, other, rows), wanted)
                    sorts[wanted] += 1
        self.assertTrue(min(sorts.values()) > 10)


class CheckParted(SolidCase):

    def test_papers(self):
        one, other = stretch(0, 2), points_of_line((1, 5))
        self.assertIs(check_parted(form=one, other=other, paper=("point", (1, 1))), True)
        self.assertIs(check_parted(one, other, ("point", (3, 2))), True)
        self.assertIs(check_parted(stretch(0, 2, ("ge", "lt")), other, ("point", (1, 1))), True)
        self.assertIs(check_parted(stretch(0, 1), stretch(2, 3), ("ladder", ((-2, 3),))), False)
        self.assertIs(check_parted(EMPTY[1], other, ("ladder", ())), False)

    def test_bent_papers(self):
        one, other = stretch(0, 2), points_of_line((1, 5))
        for value in ((5, 2), (1, 2), (-1, 1), (0, 2), (1, 0), (1,), None, (1, 1, 1), [1, 1], (True, 1), ((1, 1),)):
            self.refused(NotPaper, check_parted, one, other, ("point", value), word="point")
        self.refused(NotPaper, check_parted, stretch(0, 1, ("ge", "lt")), other, ("point", (1, 1)), word="point")
        self.refused(NotPaper, check_parted, EMPTY[1], ALL[1], ("point", (1, 1)), word="point")
        for value in ((), ((1, -1),), ((-1, 1),), None, [(1, -1)], ((1, 0), (1, 0))):
            self.refused(NotPaper, check_parted, one, other, ("ladder", value), word="ladder")
        self.refused(NotPaper, check_parted, stretch(0, 1), stretch(2, 3), ("ladder", ((2, -3),)), word="ladder")
        for value in NO_TUPLES + ((), ("point",), ("ladder",), ("point", (1, 1), ()), ("in", (1, 1)), (None, (1, 1)),
                                  (("point",), (1, 1)), ["point", (1, 1)]):
            self.refused(NotPaper, check_parted, one, other, value, word="form")


class CommonPoint(SolidCase):

    def judge(self, forms):
        """What is answered, judged by the hulls."""
        found = common_point(forms)
        self.same(common_point(forms), found)
        if found[0] == "point":
            check_point(forms[0][0], found[1])
            for form in forms:
                self.assertEqual(in_hull(form, found[1])[0], "in")
            return found
        self.assertEqual((found[0], len(found)), ("few", 2))
        self.assertLessEqual(len(found[1]), forms[0][0] + 1)
        return found

    def test_one_set_alone(self):
        for dimension in DIMENSIONS:
            self.same(common_point((EMPTY[dimension],)), ("few", (0,)))
            self.assertEqual(self.judge((ALL[dimension],))[0], "point")
            for form in some_forms(dimension, 10, 4, 206):
                self.assertEqual(self.judge((form,))[0], "few" if form == EMPTY[dimension] else "point")

    def test_worked_by_hand(self):
        self.same(common_point(forms=(stretch(0, 1), stretch(1, 2))), ("point", (1, 1)))
        self.same(self.judge((stretch(0, 3), stretch(1, 2), stretch(3, 4))), ("few", (1, 2)))
        self.same(self.judge((stretch(0, 3), EMPTY[1], stretch(9, 10))), ("few", (1,)))
        self.same(self.judge((stretch(0, 3), stretch(4, 5), EMPTY[1], EMPTY[1])), ("few", (2,)))
        self.same(self.judge((stretch(5, 6), stretch(0, 1), stretch(5, 7), stretch(2, 3))), ("few", (0, 1)))
        self.same(self.judge((stretch(0, 1), stretch(1, 2), stretch(1, 2, ("gt", "le")))), ("few", (0, 2)))

    def test_just_as_few_as_may_be(self):
        """The sides of a simplex: each D of them have a common corner, all of them no point."""
        for dimension in DIMENSIONS:
            sides = [("is", "le", unit(dimension, place)) for place in range(dimension)]
            sides.append(("is", "ge", (1,) * dimension + (-1,)))
            forms = tuple(form_of(dimension, side) for side in sides)
            self.same(self.judge(forms), ("few", tuple(range(dimension + 1))))
            filled = (ALL[dimension],) + forms
            self.same(self.judge(filled), ("few", tuple(range(1, dimension + 2))))
            for lot in combinations(forms, dimension):
                self.assertEqual(self.judge(lot)[0], "point")
            touching = forms[:-1] + (form_of(dimension, ("is", "ge", (1,) * dimension + (0,))),)
            self.same(self.judge(touching), ("point", (0,) * dimension + (1,)))
            open_there = forms[:-1] + (form_of(dimension, ("is", "gt", (1,) * dimension + (0,))),)
            self.same(self.judge(open_there), ("few", tuple(range(dimension + 1))))

    def test_eight_sets(self):
        forms = tuple(stretch(-k, k + 1) for k in range(8))
        self.assertEqual(self.judge(forms)[0], "point")
        self.same(self.judge(forms[:7] + (stretch(3, 4),)), ("few", (0, 7)))
        cubes = tuple(form_of(3, box(3, -k, 1 + k, ("gt", "lt"))) for k in range(8))
        self.assertEqual(self.judge(cubes)[0], "point")

    def test_against_pairs_and_hulls(self):
        random = Random(207)
        for dimension, many in ((1, 30), (2, 30), (3, 12)):
            forms = list(some_forms(dimension, 25, 3, 208)) + list(told_forms(dimension, 40, 209, 3))
            for _ in range(many):
                some = tuple(random.choice(forms) for _ in range(random.randint(2, 5)))
                found = self.judge(some)
                try:
                    hulls = [hull_of(form) for form in some]
                    wanted = self.fewest(hulls)
                except TooGreat:
                    continue
                self.assertEqual(found[1] if found[0] == "few" else None, wanted)

    def fewest(self, hulls):
        for many in range(1, len(hulls) + 1):
            for numbers in combinations(range(len(hulls)), many):
                common = hulls[numbers[0]]
                for number in numbers[1:]:
                    common = both(common, hulls[number])
                if not common[2]:
                    return numbers
        return None

    def test_unlike(self):
        self.refused(Unlike, common_point, ())
        self.refused(Unlike, common_point, (ALL[1],) * 9)
        self.refused(Unlike, common_point, (EMPTY[2],) * 9)
        self.refused(Unlike, common_point, (ALL[1], ALL[2]))
        self.refused(Unlike, common_point, (EMPTY[1], EMPTY[1], EMPTY[3]))

    def test_as_many_planes_as_may_be(self):
        planes = tuple((1, k, k * k, k ** 3 * 7 + 1) for k in range(1, 17))
        cells = cells_of(3, planes)
        forms = tuple(form_from(3, planes, tuple(signs for signs in cells if signs[place] == 1)) for place in range(8))
        found = self.judge(forms)
        if found[0] == "point":
            self.assertTrue(all(has_point(form, found[1]) for form in forms))


if __name__ == "__main__":
    unittest.main()
