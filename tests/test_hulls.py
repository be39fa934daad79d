"""Promises [44] and [45]: hulls of sets, hull flats, convex sets, and papers on points of hulls."""

import unittest
from fractions import Fraction
from random import Random

from formed import ALL, EMPTY, box, in_form, lone, pairs_of, points_of_line, some_forms, told_forms, unit
from helping import BIG, NO_TUPLES, SolidCase, numbers_at, told
from making import small_points
from onesolid.cells import cells_of, point_in
from onesolid.deeds import either, inner, is_within, less, rest
from onesolid.errors import NotPaper, NotPoint, TooGreat
from onesolid.flats import check_flat
from onesolid.forms import form_from, form_of, has_point, need_form
from onesolid.hulls import check_hull, hull_flats, hull_of, in_hull, is_convex, not_convex
from onesolid.images import drawn_on, shifted
from onesolid.needed import cut_out, flats_of, is_cut_out
from onesolid.numbers import check_fraction
from onesolid.points import check_point
from onesolid.rows import check_row
from spanned import hull_flats_anew, is_ladder_anew, spanning

DIMENSIONS = (1, 2, 3)
# The document's own example: the point (0, 0) and the line Y = 1.
POINT_AND_LINE = form_of(2, ("or", lone(0, 0), ("is", "eq", (0, 1, -1))))


def pairs_of_point(point):
    rows = [unit(len(point) - 1, place, 0) for place in range(len(point) - 1)]
    return [("eq", tuple(number * point[-1] for number in row[:-1]) + (-point[place],))
            for place, row in enumerate(rows)]


class Papers(SolidCase):

    def judge(self, form, point):
        """What the paper on a point shows, judged anew."""
        dimension = form[0]
        paper = in_hull(form, point)
        self.same(in_hull(form, point), paper)
        self.assertIs(check_hull(form, point, paper), paper[0] == "in")
        if paper[0] == "out":
            self.assertEqual(len(paper), 2)
            for row in paper[1]:
                check_row(dimension, row)
            self.assertLessEqual(len(paper[1]), dimension)
            self.assertTrue(is_ladder_anew(dimension, [pairs_of_point(point)], pairs_of(form), paper[1]))
            return False
        word, points, weights = paper
        self.assertEqual(word, "in")
        self.assertTrue(1 <= len(points) == len(weights) <= dimension + 1)
        for own, weight in zip(points, weights):
            check_point(dimension, own)
            check_fraction(weight)
            self.assertGreater(weight[0], 0)
            self.assertTrue(in_form(form, numbers_at(own)))
        self.assertEqual(sum(told(weight) for weight in weights), 1)
        for place in range(dimension):
            total = sum(told(weight) * Fraction(own[place], own[-1]) for own, weight in zip(points, weights))
            self.assertEqual(total, Fraction(point[place], point[-1]))
        return True


class HullOf(Papers):

    def test_worked_by_hand(self):
        self.same(hull_of(POINT_AND_LINE),
                  form_of(2, ("or", lone(0, 0), ("and", ("is", "gt", (0, 1, 0)), ("is", "le", (0, 1, -1))))))
        self.same(hull_of(form=form_of(1, ("or", lone(3), lone(7)))), form_of(1, box(1, 3, 7)))
        self.same(hull_of(form_of(1, ("or", lone(3), box(1, 5, 7, ("ge", "lt"))))),
                  form_of(1, box(1, 3, 7, ("ge", "lt"))))
        corners = form_of(2, ("or", lone(0, 0), lone(1, 0), lone(0, 1), lone(1, 1)))
        self.same(hull_of(corners), form_of(2, box(2)))
        # Points on a line, and one point.
        row = form_of(2, ("or", lone(0, 0), lone(2, 2), lone(1, 1)))
        self.same(hull_of(row), form_of(2, ("and", ("is", "eq", (1, -1, 0)), ("is", "ge", (1, 0, 0)),
                                            ("is", "le", (1, 0, -2)))))
        point = form_of(3, lone(1, 2, 3))
        self.same(hull_of(point), point)
        # An open square and one point of its side.
        form = form_of(2, ("or", box(2, 0, 2, ("gt", "lt")), lone(1, 0)))
        self.same(hull_of(form), form)
        form = form_of(2, ("or", box(2, 0, 2, ("gt", "lt")), lone(1, 0), lone(2, 0)))
        self.same(hull_of(form), form_of(2, ("or", box(2, 0, 2, ("gt", "lt")),
                                             ("and", ("is", "eq", (0, 1, 0)), ("is", "ge", (1, 0, -1)),
                                              ("is", "le", (1, 0, -2))))))
        # Without bounds: two rays, two lines that cross, two that do not.
        form = form_of(2, ("or", ("and", ("is", "eq", (0, 1, 0)), ("is", "ge", (1, 0, 0))),
                           ("and", ("is", "eq", (1, 0, 0)), ("is", "ge", (0, 1, 0)))))
        self.same(hull_of(form), form_of(2, ("and", ("is", "ge", (1, 0, 0)), ("is", "ge", (0, 1, 0)))))
        self.same(hull_of(form_of(2, ("or", ("is", "eq", (1, 1, 0)), ("is", "eq", (1, -1, 0))))), ALL[2])
        self.same(hull_of(form_of(3, ("or", ("is", "eq", (0, 0, 1, 0)), ("is", "eq", (0, 0, 1, -1))))),
                  form_of(3, ("and", ("is", "ge", (0, 0, 1, 0)), ("is", "le", (0, 0, 1, -1)))))
        # A line and a point beside it, in space: their plane, half open.
        form = form_of(3, ("or", lone(0, 0, 0), ("and", ("is", "eq", (0, 1, 0, -1)), ("is", "eq", (0, 0, 1, -1)))))
        self.same(hull_of(form), form_of(3, ("and", ("is", "eq", (0, 1, -1, 0)),
                                             ("or", lone(0, 0, 0), ("and", ("is", "gt", (0, 1, 0, 0)),
                                                                    ("is", "le", (0, 1, 0, -1)))))))

    def test_empty_and_whole(self):
        for dimension in DIMENSIONS:
            for form in (EMPTY[dimension], ALL[dimension]):
                self.same(hull_of(form), form)
                self.same(hull_flats(form), ())
            self.same(hull_of(rest(form_of(dimension, lone(*[0] * dimension)))), ALL[dimension])

    def test_papers_tell_who_belongs_to_it(self):
        for dimension, many in ((1, 30), (2, 30), (3, 12)):
            for form in list(some_forms(dimension, many, 4, 190)) + list(told_forms(dimension, many // 2, 191)):
                try:
                    found = hull_of(form)
                except TooGreat:
                    continue
                self.assertIs(need_form(found), found)
                self.assertIs(is_within(form, found), True)
                self.same(hull_of(found), found)
                self.assertIs(is_convex(found), True)
                points = small_points(dimension, 4, 192)
                points += [point_in(dimension, found[1], signs) for signs in cells_of(dimension, found[1])[:8]]
                for point in points:
                    self.assertIs(self.judge(form, point), has_point(found, point))

    def test_planes_that_cut_out_the_hull_flats(self):
        for dimension in DIMENSIONS:
            for form in some_forms(dimension, 20, 4, 193):
                planes = cut_out(dimension, hull_flats(form))
                most = {1: 60, 2: 24, 3: 16}[dimension]
                if len(planes) > most:
                    self.refused(TooGreat, hull_of, form, most=most)
                    continue
                found = hull_of(form)
                inside = [signs for signs in cells_of(dimension, planes)
                          if has_point(found, point_in(dimension, planes, signs))]
                self.same(form_from(dimension, planes, tuple(inside)), found)
                for flat in flats_of(found):
                    self.assertTrue(is_cut_out(dimension, planes, flat))

    def test_too_great(self):
        # Points of a parabola: of each two neighbours a line is a wall.
        planes = tuple((1, 0, -k) for k in range(-6, 6)) + tuple((0, 1, -k * k) for k in range(6))
        cells = [signs for signs in cells_of(2, planes) if signs.count(0) == 2
                 and on_parabola(point_in(2, planes, signs))]
        self.assertEqual(len(cells), 11)
        form = form_from(2, planes, tuple(cells))
        self.assertEqual(len(hull_of(form)[1]), 11)
        # In space, with points of many walls.
        planes = tuple((1, 0, 0, -k) for k in range(-2, 4)) + tuple((0, 1, 0, -k * k) for k in range(4)) + \
            tuple((0, 0, 1, -k) for k in (0, 1, -1, 8, -8, 27))
        cells = [signs for signs in cells_of(3, planes) if signs.count(0) == 3]
        curve = [signs for signs in cells if on_curve(point_in(3, planes, signs))]
        self.assertEqual(len(curve), 6)
        found = hull_of(form_from(3, planes, tuple(curve)))
        self.assertEqual(len(found[1]), 8)
        many = form_from(3, planes, tuple(signs for k, signs in enumerate(cells) if k % 7 == 0))
        self.assertGreater(len(cut_out(3, hull_flats(many))), 16)
        self.refused(TooGreat, hull_of, many, most=16)
        # What gives no form takes it.
        self.assertIs(is_convex(many), False)
        self.judge(many, (0, 0, 0, 1))
        self.judge(many, (1, 9, 0, 1))

    def test_moving_and_drawing(self):
        for dimension in DIMENSIONS:
            for form in some_forms(dimension, 10, 3, 194):
                try:
                    found = hull_of(form)
                    self.same(hull_of(shifted(form, (2,) * dimension + (3,))), shifted(found, (2,) * dimension + (3,)))
                    table = tuple(unit(dimension, place, 1) for place in range(dimension))[::-1]
                    self.same(hull_of(drawn_on(form, table)), drawn_on(found, table))
                except TooGreat:
                    pass


def on_parabola(point):
    x, y = numbers_at(point)
    return y == x * x


def on_curve(point):
    x, y, z = numbers_at(point)
    return y == x * x and z == x * x * x


class HullFlats(SolidCase):

    def test_worked_by_hand(self):
        self.same(hull_flats(form=POINT_AND_LINE), (((0, 1, -1),), ((0, 1, 0),), ((1, 0, 0), (0, 1, 0))))
        self.same(hull_flats(form_of(2, lone(1, 2))), (((1, 0, -1), (0, 1, -2)),))
        self.same(hull_flats(form_of(1, box(1, 0, 1, ("gt", "lt")))), (((1, -1),), ((1, 0),)))
        # Of an open square nothing lies on its sides, so these alone are there.
        self.same(hull_flats(form_of(2, box(2, 0, 1, ("gt", "lt")))),
                  (((0, 1, -1),), ((0, 1, 0),), ((1, 0, -1),), ((1, 0, 0),)))
        self.assertEqual(len(hull_flats(form_of(2, box(2)))), 8)
        self.assertEqual(len(hull_flats(form_of(3, box(3)))), 26)
        corners = form_of(3, ("or", lone(0, 0, 0), lone(1, 0, 0), lone(0, 1, 0), lone(0, 0, 1)))
        self.assertEqual(len(hull_flats(corners)), 14)

    def test_told_anew(self):
        compared = 0
        for dimension, many in ((1, 30), (2, 40), (3, 25)):
            for form in some_forms(dimension, many, 4, 195):
                vectors = spanning(form)
                # Where the planes have no corner, lines would be needed, too; where there are many, it takes long.
                if not all(any(vector[-1] > 0 for vector in own) for own in vectors.values()):
                    continue
                if len({vector for own in vectors.values() for vector in own}) > 13:
                    continue
                found = hull_flats(form)
                for flat in found:
                    check_flat(dimension, flat)
                wanted = hull_flats_anew(dimension, vectors)
                self.same(found, tuple(sorted(wanted, key=lambda flat: (len(flat), flat))))
                compared += 1
        self.assertGreater(compared, 50)


class Convex(SolidCase):

    def bent(self, form):
        """A set that is not convex, with two points of it and one between them that shows this."""
        self.assertIs(is_convex(form), False)
        found = not_convex(form)
        self.same(not_convex(form), found)
        one, other, between = [numbers_at(check_point(form[0], point)) for point in found]
        self.assertTrue(in_form(form, one) and in_form(form, other) and not in_form(form, between))
        shares = {(at - near) / (far - near) for near, far, at in zip(one, other, between) if far != near}
        self.assertEqual(len(shares), 1)
        self.assertTrue(0 < shares.pop() < 1)
        self.assertTrue(all(at == near for near, far, at in zip(one, other, between) if far == near))

    def test_convex_sets(self):
        for dimension in DIMENSIONS:
            for formula in (("and",), ("or",), lone(*range(dimension)), box(dimension),
                            box(dimension, 0, 1, ("gt", "lt")), box(dimension, 0, 1, ("ge", "lt")),
                            ("is", "gt", unit(dimension, 0)), ("is", "eq", unit(dimension, 0))):
                form = form_of(dimension, formula)
                self.assertIs(is_convex(form=form), True)
                self.same(not_convex(form=form), None)
        form = form_of(2, ("or", ("is", "gt", (0, 1, 0)), ("and", ("is", "eq", (0, 1, 0)), ("is", "ge", (1, 0, 0)))))
        self.assertIs(is_convex(form), True)

    def test_sets_that_are_not(self):
        self.bent(form_of(1, ("or", lone(0), lone(1))))
        self.bent(form_of(1, ("is", "ne", (1, 0))))
        self.bent(form_of(2, ("or", lone(0, 0), lone(7, 1))))
        self.bent(POINT_AND_LINE)
        self.bent(rest(form_of(2, lone(3, 3))))
        self.bent(rest(form_of(3, box(3))))
        # A square without an inner point of a side, without a point inside; without a corner it is convex.
        self.bent(form_of(2, ("and", box(2, 0, 2), ("not", lone(1, 0)))))
        self.bent(form_of(2, ("and", box(2, 0, 2), ("not", lone(1, 1)))))
        self.same(not_convex(form_of(2, ("and", box(2, 0, 2), ("not", lone(2, 0))))), None)
        # Two corners of an open square; one of them alone is convex.
        opened = box(2, 0, 2, ("gt", "lt"))
        self.bent(form_of(2, ("or", opened, lone(0, 0), lone(2, 0))))
        self.same(not_convex(form_of(2, ("or", opened, lone(0, 0), lone(2, 2)))), None)
        self.bent(form_of(3, ("or", box(3, 0, 1, ("gt", "lt")), lone(0, 0, 0), lone(1, 1, 0))))
        self.same(not_convex(form_of(3, ("or", box(3, 0, 1, ("gt", "lt")), lone(0, 0, 0), lone(1, 1, 1)))), None)

    def test_a_set_is_convex_if_it_is_its_hull(self):
        sorts = {True: 0, False: 0}
        for dimension in DIMENSIONS:
            for form in list(some_forms(dimension, 40, 4, 196)) + list(told_forms(dimension, 60, 197)):
                try:
                    wanted = hull_of(form) == form
                except TooGreat:
                    continue
                sorts[wanted] += 1
                if wanted:
                    self.assertIs(is_convex(form), True)
                    self.same(not_convex(form), None)
                else:
                    self.bent(form)
        self.assertTrue(min(sorts.values()) > 40)

    def test_as_many_planes_as_may_be(self):
        self.bent(points_of_line(range(60)))
        planes = tuple((1, k, k * k, k ** 3 * 7 + 1) for k in range(1, 17))
        cells = cells_of(3, planes)
        random = Random(198)
        self.bent(form_from(3, planes, tuple(signs for signs in cells if random.random() < 0.5)))
        self.bent(form_from(3, planes, tuple(signs for signs in cells if 0 not in signs)))


class InHull(Papers):

    def test_in_on_the_rim_and_beside(self):
        square = form_of(2, box(2))
        for point, wanted in (((1, 1, 2), True), ((0, 0, 1), True), ((1, 0, 2), True), ((2, 2, 1), False),
                              ((-1, 0, 1), False), ((BIG - 1, 0, BIG), True), ((BIG + 1, 0, BIG), False)):
            self.assertIs(self.judge(square, point), wanted)
        bare = inner(square)
        for point, wanted in (((1, 1, 2), True), ((0, 0, 1), False), ((1, 0, 2), False), ((1, BIG, BIG), False),
                              ((1, 1, BIG), True), ((BIG - 1, BIG - 1, BIG), True)):
            self.assertIs(self.judge(bare, point), wanted)
        for point, wanted in (((0, 0, 1), True), ((1, 0, 1), False), ((BIG, 1, 3), True), ((BIG, 1, 1), True),
                              ((5, 1, BIG), True), ((5, 4, 3), False), ((0, -1, BIG), False)):
            self.assertIs(self.judge(POINT_AND_LINE, point), wanted)

    def test_the_empty_set_and_the_whole_space(self):
        for dimension in DIMENSIONS:
            point = (3,) * dimension + (2,)
            self.same(in_hull(form=EMPTY[dimension], point=point), ("out", ()))
            self.assertIs(self.judge(ALL[dimension], point), True)
            self.same(check_hull(EMPTY[dimension], point, ("out", (unit(dimension, 0, -1),))), False)

    def test_steps_on_the_rim(self):
        """At each step the point is on the rim of the hull of what is left of the set."""
        level = ("is", "eq", (0, 0, 1, 0))
        form = form_of(3, ("or", ("is", "gt", (0, 0, 1, 0)), ("and", level, ("is", "gt", (0, 1, 0, 0))),
                           ("and", level, ("is", "eq", (0, 1, 0, 0)), ("is", "gt", (1, 0, 0, 0)))))
        self.assertIs(is_convex(form), True)
        paper = in_hull(form, (0, 0, 0, 1))
        self.assertEqual(len(paper[1]), 3)
        self.assertIs(self.judge(form, (0, 0, 0, 1)), False)
        self.assertIs(self.judge(form, (1, 0, 0, 1)), True)
        self.assertIs(self.judge(either(form, form_of(3, lone(0, 0, 0))), (0, 0, 0, 1)), True)

    def test_no_point(self):
        for call in (lambda value: in_hull(POINT_AND_LINE, value),
                     lambda value: check_hull(POINT_AND_LINE, value, None)):
            self.refuses_what_is_no_point(call)


class CheckHull(SolidCase):
    form = form_of(2, ("or", lone(0, 0), lone(4, 0), lone(0, 4)))

    def bent(self, point, paper, word, form=None):
        self.refused(NotPaper, check_hull, self.form if form is None else form, point, paper, word=word)

    def test_right_papers(self):
        corners = ((0, 0, 1), (4, 0, 1), (0, 4, 1))
        self.assertIs(check_hull(self.form, (1, 1, 1), ("in", corners, ((1, 2), (1, 4), (1, 4)))), True)
        self.assertIs(check_hull(self.form, (1, 0, 1), ("in", corners[:2], ((3, 4), (1, 4)))), True)
        self.assertIs(check_hull(form=self.form, point=(4, 0, 1), paper=("in", corners[1:2], ((1, 1),))), True)
        # Also with a point twice.
        twice = ("in", corners[:2] + corners[:1], ((1, 2), (1, 4), (1, 4)))
        self.assertIs(check_hull(self.form, (1, 0, 1), twice), True)
        self.assertIs(check_hull(self.form, (3, 3, 1), ("out", ((1, 1, -5),))), False)
        self.assertIs(check_hull(self.form, (5, 0, 1), ("out", ((0, -1, 0), (1, 0, -4)))), False)
        self.assertIs(check_hull(self.form, (5, -1, 1), ("out", ((0, -1, 0), (1, 0, -5)))), False)

    def test_bent_at_one_place(self):
        corners, weights = ((0, 0, 1), (4, 0, 1), (0, 4, 1)), ((1, 2), (1, 4), (1, 4))
        point = (1, 1, 1)
        for paper in (("in", corners, weights[::-1] + ((1, 1),)), ("in", corners[:2], weights),
                      ("in", corners[::-1], weights), ("in", corners, ((1, 2), (1, 4), (1, 2))),
                      ("in", corners, ((2, 4), (1, 4), (1, 4))), ("in", list(corners), weights),
                      ("in", corners, list(weights)), ("in", corners, ((1, 2), (1, 4), 1)),
                      ("in", corners[:2] + ((0, 4),), weights), ("in", corners[:2] + ((0, 8, 2),), weights),
                      ("in", corners[:2] + ((0, 3, 1),), weights), ("in", (), ()), ("in", None, None),
                      ("in", corners, ((1, 2), (1, 2), (0, 1))), ("in", ((1, 1, 1),), ((1, 1),)),
                      ("in", corners + corners[:1], ((1, 4), (1, 4), (1, 4), (1, 4))),
                      ("in", corners, ((1, 2), (1, 4), (True, 4)))):
            self.bent(point, paper, "in")
        self.bent((2, 1, 1), ("in", corners, weights), "in")
        # Weights below 0, though they add up.
        self.bent((-4, 0, 1), ("in", corners[:2], ((2, 1), (-1, 1))), "in")
        for ladder in ((), ((1, 1, -5),), None, [(1, 1, -3)], ((1, 1, -1),)):
            self.bent(point, ("out", ladder), "out")
        self.bent((3, 3, 1), ("out", ((-1, -1, 5),)), "out")
        self.bent((3, 3, 1), ("out", ((2, 2, -10),)), "out")
        self.bent((3, 3, 1), ("out", ((1, 1, -5), (0, 0, 1))), "out")
        self.bent((3, 3, 1), ("out", ((1, 1, -5), (0, 1, 0), (1, 0, 0))), "out")
        self.bent((3, 3, 1), ("out", ((1, 1, -7),)), "out")
        self.bent((3, 3, 1), ("out", ((1, 1, -4), (1, 1)),), "out")

    def test_too_many_points(self):
        line = form_of(1, box(1, 0, 4))
        points, weights = ((0, 1), (1, 1), (2, 1)), ((1, 4), (1, 2), (1, 4))
        self.bent((1, 1), ("in", points, weights), "in", line)
        self.assertIs(check_hull(line, (1, 1), ("in", points[::2], ((1, 2), (1, 2)))), True)

    def test_other_values(self):
        for value in NO_TUPLES + ((), ("in",), ("in", ()), ("out",), ("out", (), ()), ("in", (), (), ()),
                                  (None, (), ()), ("point", (), ()), ("ladder", ()), (["in"], (), ()), ["out", ()]):
            self.bent((0, 0, 1), value, "form")
        self.refused(NotPoint, check_hull, self.form, (0, 0, 0), ("in", (), ()), place=2)

    def test_points_of_the_closure_alone(self):
        bare = form_of(1, box(1, 0, 2, ("gt", "lt")))
        self.bent((1, 1), ("in", ((0, 1), (2, 1)), ((1, 2), (1, 2))), "in", bare)
        self.assertIs(check_hull(bare, (1, 1), ("in", ((1, 2), (3, 2)), ((1, 2), (1, 2)))), True)
        self.assertIs(check_hull(bare, (0, 1), ("out", ((-1, 0),))), False)
        self.bent((0, 1), ("out", ((-1, 0),)), "out", form_of(1, box(1, 0, 2)))
        self.assertIs(is_convex(less(bare, form_of(1, lone(1)))), False)


if __name__ == "__main__":
    unittest.main()
