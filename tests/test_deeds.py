"""Promise [38]: complements, intersections, unions, closures, interiors."""

import unittest
from random import Random

from arranged import cells_anew
from formed import (ALL, EMPTY, MOST, box, form_anew, hard_to_close, is_face, lone, points_of_line, some_forms,
                    told_forms, unit)
from helping import SolidCase
from making import small_points
from onesolid.cells import cells_of
from onesolid.deeds import (all_of, any_of, are_apart, both, closed, either, either_one, inner, is_closed, is_open,
                            is_within, less, regular, rest, rim)
from onesolid.errors import TooGreat, Unlike
from onesolid.forms import form_from, form_of, has_point, need_form

DIMENSIONS = (1, 2, 3)
TWOS = (both, either, less, either_one, is_within, are_apart)


def stretch(low, high, words=("ge", "le")):
    return form_of(1, box(1, low, high, words))


def planes_beside(dimension, numbers):
    """A form of planes that stand side by side."""
    return form_of(dimension, ("or",) + tuple(("is", "eq", unit(dimension, 0, number)) for number in numbers))


class Rest(SolidCase):

    def test_worked_by_hand(self):
        for dimension in DIMENSIONS:
            self.same(rest(EMPTY[dimension]), ALL[dimension])
            self.same(rest(form=ALL[dimension]), EMPTY[dimension])
        self.same(rest(stretch(0, 1)), form_of(1, ("or", ("is", "lt", (1, 0)), ("is", "gt", (1, -1)))))
        self.same(rest(form_of(2, lone(0, 0)))[1], ((0, 1, 0), (1, 0, 0)))
        self.assertEqual(len(rest(points_of_line(range(60)))[2]), 61)

    def test_it_is_a_form(self):
        for dimension in DIMENSIONS:
            for form in some_forms(dimension, 25, 5, 110):
                found = rest(form)
                self.assertIs(need_form(found), found)
                self.same(rest(found), form)
                for point in small_points(dimension, 10, 111):
                    self.assertIs(has_point(found, point), not has_point(form, point))


class TwoSets(SolidCase):

    def test_worked_by_hand(self):
        one, two = stretch(0, 2), stretch(1, 3)
        self.same(both(form=one, other=two), stretch(1, 2))
        self.same(either(form=one, other=two), stretch(0, 3))
        self.same(less(form=one, other=two), stretch(0, 1, ("ge", "lt")))
        self.same(either_one(form=one, other=two),
                  form_of(1, ("or", box(1, 0, 1, ("ge", "lt")), box(1, 2, 3, ("gt", "le")))))
        self.same(both(stretch(0, 1), stretch(1, 2)), form_of(1, lone(1)))
        self.same(both(stretch(0, 1), stretch(1, 2, ("gt", "le"))), EMPTY[1])
        self.same(either(stretch(0, 1), stretch(1, 2, ("gt", "le"))), stretch(0, 2))
        self.same(less(one, one), EMPTY[1])
        self.same(either_one(one, rest(one)), ALL[1])

    def test_the_words(self):
        random = Random(112)
        for dimension in DIMENSIONS:
            forms = list(told_forms(dimension, 40, 113, 3)) + list(some_forms(dimension, 12, 3, 114))
            for _ in range(40):
                one, two = random.choice(forms), random.choice(forms)
                found = [call(one, two) for call in (both, either, less, either_one)]
                for form in found:
                    self.assertIs(need_form(form), form)
                for point in small_points(dimension, 12, 115):
                    a, b = has_point(one, point), has_point(two, point)
                    self.assertEqual([has_point(form, point) for form in found],
                                     [a and b, a or b, a and not b, a != b])
                self.assertIs(is_within(form=one, other=two), found[2] == EMPTY[dimension])
                self.assertIs(are_apart(form=one, other=two), found[0] == EMPTY[dimension])
                self.assertIs(is_within(found[0], one), True)
                self.assertIs(is_within(one, found[1]), True)

    def test_unlike_dimensions(self):
        for call in TWOS:
            self.refused(Unlike, call, EMPTY[1], EMPTY[2])
            self.refused(Unlike, call, ALL[3], points_of_line(range(60)))
            # Ahead of planes that are too many.
            self.refused(Unlike, call, points_of_line(range(60)), planes_beside(2, range(24)))

    def test_just_as_many_planes_as_may_be(self):
        for dimension, most in MOST.items():
            half = most // 2
            one, two = planes_beside(dimension, range(half)), planes_beside(dimension, range(half, most))
            three = planes_beside(dimension, range(half, most + 1))
            for call in TWOS:
                call(one, two)
                # Whether the planes are needed for what is asked or not.
                self.refused(TooGreat, call, one, three, most=most)
                call(one, one)
            self.assertEqual(len(either(one, two)[1]), most)
            self.same(both(one, two), EMPTY[dimension])

    def test_a_result_with_too_many_planes(self):
        # 16 planes that meet in 560 points: what of one plane less is left in these needs many more.
        planes = tuple((1, k, k * k, k ** 3 * 7 + 1) for k in range(1, 17))
        cells = cells_of(3, planes)
        corners = form_from(3, planes, tuple(signs for signs in cells if 0 not in signs or signs.count(0) == 3))
        opened = form_from(3, planes, tuple(signs for signs in cells if 0 not in signs))
        self.assertEqual(corners[1], opened[1])
        for call in (both, either):
            call(corners, opened)
        self.refused(TooGreat, less, corners, opened, most=16)
        self.refused(TooGreat, either_one, corners, opened, most=16)
        self.refused(TooGreat, is_within, corners, opened, most=16)
        self.refused(TooGreat, are_apart, corners, rest(opened), most=16)
        self.assertIs(is_within(opened, corners), True)


class ManySets(SolidCase):

    def test_none_and_one(self):
        for dimension in DIMENSIONS:
            self.same(all_of(dimension, ()), ALL[dimension])
            self.same(any_of(dimension, ()), EMPTY[dimension])
            for form in some_forms(dimension, 8, 4, 116):
                self.same(all_of(dimension=dimension, forms=(form,)), form)
                self.same(any_of(dimension=dimension, forms=(form, form)), form)

    def test_several(self):
        random = Random(117)
        for dimension in DIMENSIONS:
            forms = list(told_forms(dimension, 40, 118, 3))
            for _ in range(25):
                some = tuple(random.choice(forms) for _ in range(random.randint(2, 4)))
                try:
                    common, union = all_of(dimension, some), any_of(dimension, some)
                except TooGreat:
                    continue
                for point in small_points(dimension, 12, 119):
                    inside = [has_point(form, point) for form in some]
                    self.assertIs(has_point(common, point), all(inside))
                    self.assertIs(has_point(union, point), any(inside))
                self.same(all_of(dimension, some[::-1]), common)

    def test_refused(self):
        for call in (all_of, any_of):
            self.refused(Unlike, call, 1, (EMPTY[1], EMPTY[2]))
            self.refused(Unlike, call, 2, (EMPTY[1],))
            self.refused(Unlike, call, 1, (points_of_line(range(60)), points_of_line(range(-60, 0)), EMPTY[3]))
            self.refused(TooGreat, call, 1, (points_of_line(range(60)), EMPTY[1], points_of_line([60])), most=60)
            call(1, (points_of_line(range(60)),) * 3)


class Closures(SolidCase):

    def test_worked_by_hand(self):
        square = form_of(2, box(2))
        bare = form_of(2, box(2, 0, 1, ("gt", "lt")))
        for form in (square, bare, form_of(2, box(2, 0, 1, ("ge", "lt")))):
            self.same(closed(form=form), square)
            self.same(inner(form=form), bare)
            self.same(rim(form=form), less(square, bare))
            self.same(regular(form=form), square)
        self.same([is_closed(square), is_closed(bare), is_open(square), is_open(bare)], [True, False, False, True])
        point = form_of(2, lone(1, 1))
        self.same(closed(point), point)
        self.same(inner(point), EMPTY[2])
        self.same(rim(point), point)
        self.same(regular(point), EMPTY[2])
        self.same(closed(rest(point)), ALL[2])
        self.same(regular(rest(point)), ALL[2])
        self.same(rim(rest(point)), point)
        for dimension in DIMENSIONS:
            for form in (EMPTY[dimension], ALL[dimension]):
                for call in (closed, inner, regular):
                    self.same(call(form), form)
                self.same(rim(form), EMPTY[dimension])
                self.assertIs(is_closed(form=form), True)
                self.assertIs(is_open(form=form), True)

    def test_slits_lone_points_and_missing_corners(self):
        # A square with a slit, without a corner, beside a lone point and a lone stretch.
        slit = ("and", ("is", "eq", (2, 0, -1)), ("is", "ge", (0, 2, -1)))
        stretch_beside = ("and", ("is", "eq", (0, 1, 0)), ("is", "ge", (1, 0, -3)), ("is", "lt", (1, 0, -4)))
        form = form_of(2, ("or", ("and", box(2), ("not", slit), ("not", lone(0, 0))), lone(5, 5), stretch_beside))
        self.same(closed(form), form_of(2, ("or", box(2), lone(5, 5), ("and", ("is", "eq", (0, 1, 0)),
                                                                      ("is", "ge", (1, 0, -3)),
                                                                      ("is", "le", (1, 0, -4))))))
        self.same(inner(form), form_of(2, ("and", box(2, 0, 1, ("gt", "lt")), ("not", slit))))
        self.same(regular(form), form_of(2, box(2)))
        self.assertIs(has_point(rim(form), (1, 2, 2)), True)
        self.assertIs(has_point(rim(form), (1, 1, 4)), False)
        self.assertIs(has_point(rim(form), (0, 0, 1)), True)

    def test_told_anew(self):
        for dimension, many in ((1, 25), (2, 20), (3, 9)):
            for form in some_forms(dimension, many, 4, 120):
                planes = form[1]
                cells = cells_anew(dimension, planes)
                inside = set(form[2])
                near = {signs: {cell in inside for cell in cells if is_face(signs, cell)} for signs in cells}
                touched = {signs for signs in cells if True in near[signs]}
                full = {signs for signs in cells if False not in near[signs]}
                for call, wanted in ((closed, touched), (inner, full), (rim, touched - full)):
                    try:
                        found = call(form)
                    except TooGreat:
                        continue
                    self.same(found, form_anew(dimension, planes, wanted))
                self.assertIs(is_closed(form), touched == inside)
                self.assertIs(is_open(form), full == inside)

    def test_done_twice(self):
        for dimension in DIMENSIONS:
            for form in some_forms(dimension, 25, 5, 121):
                self.same(closed(closed(form)), closed(form))
                self.same(inner(inner(form)), inner(form))
                self.same(regular(form), closed(inner(form)))
                self.same(regular(regular(form)), regular(form))
                self.same(inner(form), rest(closed(rest(form))))
                self.same(rim(form), rim(rest(form)))
                self.same(rim(form), less(closed(form), inner(form)))
                self.assertTrue(is_within(inner(form), form) and is_within(form, closed(form)))

    def test_too_great(self):
        form = hard_to_close()
        self.assertEqual(len(form[1]), 16)
        for call in (closed, is_closed):
            self.refused(TooGreat, call, form, most=16)
        self.assertEqual(len(inner(form)[1]), 16)
        self.assertIs(is_open(form), False)
        self.same(regular(form), form_of(3, ("is", "le", (0, 0, 1, 150))))
        for call in (inner, is_open, regular):
            self.refused(TooGreat, call, rest(form), most=16)
        self.assertIs(is_closed(rest(form)), False)
        self.assertEqual(len(rim(form)[1]), 16)


if __name__ == "__main__":
    unittest.main()
