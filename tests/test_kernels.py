"""Promise [64]: the kernel of a set, and papers on whether a point belongs to it."""

import unittest
from random import Random

from formed import ALL, EMPTY, box, lone, points_of_line, some_forms, told_forms
from helping import NO_TUPLES, SolidCase
from making import small_points
from onesolid.cells import cells_of, point_in
from onesolid.deeds import both, closed, inner, less, rest
from onesolid.errors import NotPaper, NotPoint, TooGreat
from onesolid.faces import toward
from onesolid.forms import form_from, form_of, has_point
from onesolid.hulls import is_convex
from onesolid.kernels import check_star, kernel, not_star, star_cells
from onesolid.points import direction_to
from onesolid.rays import is_straight_in

DIMENSIONS = (1, 2, 3)
SQUARE = form_of(2, box(2))
RING = less(form_of(2, box(2, 0, 3)), form_of(2, box(2, 1, 2, ("gt", "lt"))))
# An L: two stripes.
CORNER = form_of(2, ("or", ("and", box(2, 0, 3), ("is", "le", (1, 0, -1))),
                     ("and", box(2, 0, 3), ("is", "le", (0, 1, -1)))))
# A square with a slit from its middle to the right, and the plane without a ray.
SLIT = less(form_of(2, box(2, -1, 1)), form_of(2, ("and", ("is", "eq", (0, 1, 0)), ("is", "gt", (1, 0, 0)))))
RAYLESS = rest(form_of(2, ("and", ("is", "eq", (0, 1, 0)), ("is", "gt", (1, 0, 0)))))


def star_cells_anew(form):
    """The cells in the kernel, by the words of the fact."""
    dimension, planes, cells = form
    whole = cells_of(dimension, planes)
    inside = set(cells)
    found = []
    for own in cells:
        opposite = tuple(-sign for sign in own)
        if all((toward(signs, own) in inside) if signs in inside else (toward(signs, opposite) not in inside)
               for signs in whole):
            found.append(own)
    return tuple(found)


class Kernel(SolidCase):

    def test_worked_by_hand(self):
        for dimension in DIMENSIONS:
            for form in (EMPTY[dimension], ALL[dimension], form_of(dimension, box(dimension)),
                         form_of(dimension, box(dimension, 0, 1, ("ge", "lt"))),
                         form_of(dimension, lone(*range(dimension)))):
                self.same(kernel(form=form), form)
                self.same(star_cells(form=form), form[2])
            self.same(kernel(rest(form_of(dimension, lone(*range(dimension))))), EMPTY[dimension])
            self.same(star_cells(rest(form_of(dimension, lone(*range(dimension))))), ())
        self.same(kernel(RING), EMPTY[2])
        self.same(kernel(CORNER), SQUARE)
        self.same(kernel(inner(CORNER)), less(form_of(2, box(2, 0, 1, ("gt", "le"))), form_of(2, lone(1, 1))))
        self.same(kernel(points_of_line((1, 2))), EMPTY[1])
        # Behind a slit nothing is seen but from its line, where it goes on.
        line = form_of(2, ("and", ("is", "eq", (0, 1, 0)), ("is", "le", (1, 0, 0))))
        self.same(kernel(RAYLESS), line)
        self.same(kernel(SLIT), both(line, form_of(2, box(2, -1, 1))))
        # A cross of two lines, and of two planes.
        self.same(kernel(form_of(2, ("or", ("is", "eq", (1, 0, 0)), ("is", "eq", (0, 1, 0))))), form_of(2, lone(0, 0)))
        self.same(kernel(form_of(3, ("or", ("is", "eq", (1, 0, 0, 0)), ("is", "eq", (0, 1, 0, 0))))),
                  form_of(3, ("and", ("is", "eq", (1, 0, 0, 0)), ("is", "eq", (0, 1, 0, 0)))))

    def test_just_as_many_planes_as_may_be(self):
        self.same(kernel(points_of_line(range(60))), EMPTY[1])
        # A polygon with 24 sides, with and without them, and with one side alone.
        sides = [(k, 1, -k * k - 40) for k in range(-6, 6)] + [(k, 1, k * k + 40) for k in range(-6, 6)]
        words = ["le"] * 12 + ["ge"] * 12
        polygon = form_of(2, ("and",) + tuple(("is", word, row) for word, row in zip(words, sides)))
        self.assertEqual(len(polygon[1]), 24)
        for form in (polygon, inner(polygon)):
            self.same(kernel(form), form)
            self.same(star_cells(form), form[2])
        fewer = form_of(2, ("and",) + tuple(("is", word, row) for word, row in zip(words[1:-1], sides[1:-1])))
        holed = less(fewer, form_of(2, lone(0, 0)))
        self.assertEqual(len(holed[1]), 24)
        self.same(kernel(holed), EMPTY[2])
        self.same(not_star(holed, (0, 0, 1)), ("out",))
        self.barred(holed, (0, 1, 2), not_star(holed, (0, 1, 2)))

    def test_by_the_fact(self):
        for dimension, many in ((1, 25), (2, 25), (3, 12)):
            for form in list(some_forms(dimension, many, 4, 390)) + list(told_forms(dimension, many, 391, 3)):
                found = star_cells_anew(form)
                self.same(star_cells(form), found)
                try:
                    self.same(kernel(form), form_from(dimension, form[1], found))
                except TooGreat:
                    self.refused(TooGreat, kernel, form, most={1: 60, 2: 24, 3: 16}[dimension])

    def test_all_is_seen_from_it(self):
        random = Random(392)
        for dimension, many in ((1, 15), (2, 15), (3, 8)):
            for form in some_forms(dimension, many, 4, 393):
                inside = set(star_cells(form))
                targets = [point_in(dimension, form[1], signs) for signs in form[2]]
                targets += [point for point in small_points(dimension, 10, random.random()) if has_point(form, point)]
                for signs in random.sample(form[2], min(8, len(form[2]))):
                    point = point_in(dimension, form[1], signs)
                    if signs in inside:
                        self.assertTrue(all(is_straight_in(form, point, target) for target in targets))
                        self.assertIsNone(not_star(form, point))
                    else:
                        self.barred(form, point, not_star(form, point))

    def barred(self, form, point, paper):
        word, target, between = paper
        self.assertEqual(word, "barred")
        self.assertTrue(has_point(form, target))
        self.assertFalse(has_point(form, between))
        self.assertEqual(direction_to(point, between), direction_to(between, target))
        self.assertIs(check_star(form, point, paper), True)
        self.same(not_star(form, point), paper)

    def test_convex_sets_are_their_kernels(self):
        for dimension, many in ((1, 20), (2, 15), (3, 6)):
            for form in some_forms(dimension, many, 4, 394):
                try:
                    found = kernel(form)
                except TooGreat:
                    continue
                self.assertIs(is_convex(found), True)
                self.assertEqual(found == form, form[2] == () or is_convex(form))


class Papers(SolidCase):

    def test_worked_by_hand(self):
        self.assertIsNone(not_star(form=SQUARE, point=(1, 1, 2)))
        self.assertIsNone(not_star(SQUARE, (0, 0, 1)))
        self.same(not_star(SQUARE, (2, 0, 1)), ("out",))
        self.same(not_star(EMPTY[3], (2, 0, 0, 1)), ("out",))
        self.same(not_star(RING, (3, 3, 2)), ("out",))
        self.same(not_star(inner(SQUARE), (0, 0, 1)), ("out",))
        self.assertIsNone(not_star(SLIT, (-1, 0, 2)))
        for form, point in ((RING, (0, 0, 1)), (CORNER, (3, 0, 1)), (SLIT, (1, 1, 2)), (RAYLESS, (1, 1, 1)),
                            (points_of_line((1, 2)), (1, 1)), (rest(form_of(3, lone(0, 0, 0))), (1, 2, 3, 4))):
            Kernel.barred(self, form, point, not_star(form, point))

    def test_right_ones(self):
        self.assertIs(check_star(form=SQUARE, point=(1, 1, 2), paper=None), True)
        self.assertIs(check_star(SQUARE, (5, 1, 2), ("out",)), True)
        self.assertIs(check_star(CORNER, (3, 0, 1), ("barred", (0, 3, 1), (3, 3, 2))), True)
        self.assertIs(check_star(CORNER, (3, 0, 1), ("barred", (0, 3, 1), (4, 5, 3))), True)

    def test_point(self):
        for call in (not_star, lambda form, point: check_star(form, point, None),
                     lambda form, point: check_star(form, point, "x")):
            self.refuses_what_is_no_point(lambda value: call(SQUARE, value))
            self.refuses_what_is_no_point(lambda value: call(EMPTY[2], value))
            self.refused(NotPoint, call, ALL[1], (0, 0, 1), place=-1)

    def test_form(self):
        for value in NO_TUPLES + ((), ("out", 1), ("barred",), ("barred", (0, 3, 1)),
                                  ("barred", (0, 3, 1), (3, 3, 2), 1),
                                  ("kernel",), ("Out",), (None,), ("barred", (0, 3), (3, 3, 2)),
                                  ("barred", (0, 3, 1), None),
                                  ("barred", [0, 3, 1], (3, 3, 2)), ("barred", (0, 3, 1), (3, 3, 0)),
                                  ("barred", (0, 6, 2), (3, 3, 2)), ("out", (0, 3, 1), (3, 3, 2)), (("out",),)):
            if value is not None:
                self.refused(NotPaper, check_star, CORNER, (3, 0, 1), value, word="form")
                self.refused(NotPaper, check_star, CORNER, (9, 9, 1), value, word="form")

    def test_wrong_ones(self):
        for point in ((3, 0, 1), (9, 9, 1)):
            self.refused(NotPaper, check_star, CORNER, point, None, word="kernel")
        for point in ((3, 0, 1), (0, 0, 1)):
            self.refused(NotPaper, check_star, CORNER, point, ("out",), word="out")
        wrong = (
            # Between them, but in the set; not in the set, but not between; at the ends.
            ((3, 0, 1), (0, 0, 1), (1, 0, 1)), ((3, 0, 1), (0, 3, 1), (4, 4, 2)[:2] + (1,)),
                 ((3, 0, 1), (0, 3, 1), (9, -6, 1)),
            ((3, 0, 1), (0, 3, 1), (-1, 4, 1)), ((3, 0, 1), (0, 3, 1), (0, 3, 1)), ((3, 0, 1), (0, 3, 1), (3, 0, 1)),
            ((3, 0, 1), (3, 0, 1), (3, 0, 1)), ((3, 0, 1), (3, 0, 1), (2, 2, 1)), ((3, 0, 1), (0, 3, 1), (2, 2, 1)),
            # The other point, the point itself not in the set.
            ((3, 0, 1), (0, 4, 1), (3, 4, 2)), ((4, 0, 1), (0, 3, 1), (4, 3, 2)), ((4, 0, 1), (0, 3, 1), (2, 3, 2)),
            ((0, 0, 1), (3, 3, 1), (2, 2, 1)))
        for point, target, between in wrong:
            self.refused(NotPaper, check_star, CORNER, point, ("barred", target, between), word="barred")
        self.refused(NotPaper, check_star, closed(SLIT), (-1, 0, 2), ("barred", (1, 0, 1), (1, 0, 2)), word="barred")


if __name__ == "__main__":
    unittest.main()
