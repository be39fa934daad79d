"""Promise [47]: the greatest values of rows on sets, and the boxes around these."""

import unittest
from random import Random

from anew import has_points
from formed import ALL, EMPTY, box, lone, pairs_of, points_of_line, some_forms, told_forms, unit
from helping import BIG, NO_INTEGERS, NO_TUPLES, SolidCase
from onesolid.deeds import closed, rest
from onesolid.errors import Empty, Endless, NotRow, TooGreat
from onesolid.forms import form_from, form_of
from onesolid.greatest import box_of, greatest_of
from onesolid.hulls import hull_of
from onesolid.images import drawn_on, turned_about
from onesolid.numbers import check_fraction

DIMENSIONS = (1, 2, 3)


def has_value(form, row, value, word):
    """Whether at some point of the set the row is greater than, at least, just a value."""
    top, bottom = value
    pair = (word, tuple(bottom * number for number in row[:-1]) + (bottom * row[-1] - top,))
    return any(has_points(pairs + [pair], form[0]) for pairs in pairs_of(form))


class Greatest(SolidCase):

    def test_worked_by_hand(self):
        for words, wanted in ((("ge", "le"), True), (("ge", "lt"), False)):
            form = form_of(2, box(2, 0, 1, words))
            self.same(greatest_of(form=form, row=(1, 0, 0)), ((1, 1), wanted))
            self.same(greatest_of(form, (1, 2, 5)), ((8, 1), wanted))
            self.same(greatest_of(form, (-1, 0, 0)), ((0, 1), True))
            self.same(greatest_of(form, (-1, 1, 0)), ((1, 1), wanted))
        triangle = form_of(2, ("and", ("is", "ge", (1, 0, 0)), ("is", "ge", (0, 1, 0)), ("is", "lt", (2, 3, -1))))
        self.same(greatest_of(triangle, (1, 0, 0)), ((1, 2), False))
        self.same(greatest_of(triangle, (1, 1, 1)), ((3, 2), False))
        self.same(greatest_of(triangle, (-1, -1, 0)), ((0, 1), True))
        self.same(greatest_of(form_of(3, lone(1, 2, 3)), (BIG, 1, -1, 0)), ((BIG - 1, 1), True))
        # Rows of noughts.
        self.same(greatest_of(triangle, (0, 0, 0)), ((0, 1), True))
        self.same(greatest_of(ALL[3], (0, 0, 0, -7)), ((-7, 1), True))
        # A bound that is met at a lone point only; one that is met far away alone.
        form = form_of(2, ("or", box(2, 0, 1, ("ge", "lt")), lone(1, 7)))
        self.same(greatest_of(form, (1, 0, 0)), ((1, 1), True))
        self.same(greatest_of(form, (1, -1, 0)), ((1, 1), False))
        strip = form_of(2, ("and", ("is", "le", (1, 0, -1)), ("is", "gt", (1, 0, 0)), ("is", "gt", (0, 1, 0))))
        self.same(greatest_of(strip, (1, 0, 0)), ((1, 1), True))
        self.same(greatest_of(strip, (-1, 0, 0)), ((0, 1), False))

    def test_no_bound(self):
        for dimension in DIMENSIONS:
            for place in range(dimension):
                for row in (unit(dimension, place), unit(dimension, place, 5)):
                    self.refused(Endless, greatest_of, ALL[dimension], row)
                    self.refused(Endless, greatest_of, rest(form_of(dimension, box(dimension))), row)
        ray = form_of(2, ("and", ("is", "eq", (1, -1, 0)), ("is", "ge", (1, 0, 0))))
        self.refused(Endless, greatest_of, ray, (1, 0, 0))
        self.refused(Endless, greatest_of, ray, (2, -1, 0))
        self.same(greatest_of(ray, (-1, 0, 0)), ((0, 1), True))
        self.same(greatest_of(ray, (1, -1, 3)), ((3, 1), True))
        self.same(greatest_of(ray, (1, -2, 0)), ((0, 1), True))
        line = form_of(2, ("is", "eq", (1, -1, 0)))
        self.refused(Endless, greatest_of, line, (1, 0, 0))
        self.same(greatest_of(line, (2, -2, 1)), ((1, 1), True))
        # A ray in a cell whose corner lies low.
        self.refused(Endless, greatest_of, form_of(1, ("is", "gt", (1, 99))), (1, 0))

    def test_told_anew(self):
        random = Random(210)
        sorts = {True: 0, False: 0, None: 0}
        for dimension, many in ((1, 30), (2, 30), (3, 20)):
            for form in list(some_forms(dimension, many, 4, 211)) + list(told_forms(dimension, many, 212)):
                if not form[2]:
                    continue
                for _ in range(3):
                    row = tuple(random.choice((-2, -1, 0, 1, 3)) for _ in range(dimension + 1))
                    try:
                        value, is_reached = greatest_of(form, row)
                    except Endless:
                        self.assertTrue(has_value(form, row, (10 ** 9, 1), "gt"))
                        sorts[None] += 1
                        continue
                    check_fraction(value)
                    self.assertFalse(has_value(form, row, value, "gt"))
                    self.assertIs(has_value(form, row, value, "eq"), is_reached)
                    self.assertTrue(has_value(form, row, (value[0] * 10 ** 6 - 1, value[1] * 10 ** 6), "ge"))
                    sorts[is_reached] += 1
        self.assertTrue(min(sorts.values()) > 10)

    def test_the_shadow_along_the_row(self):
        """What is drawn on by the row alone has the same bound; hull and closure have it, too."""
        random = Random(213)
        for dimension in DIMENSIONS:
            for form in some_forms(dimension, 20, 3, 214):
                row = tuple(random.choice((-1, 0, 1, 2)) for _ in range(dimension + 1))
                try:
                    image, hull, whole = drawn_on(form, (row,)), hull_of(form), closed(form)
                    found = greatest_of(form, row)
                except (TooGreat, Empty, Endless):
                    continue
                self.same(greatest_of(image, (1, 0)), found)
                self.same(greatest_of(hull, row), found)
                self.same(greatest_of(whole, row)[0], found[0])

    def test_the_sequence_of_the_errors(self):
        for form in (EMPTY[2], ALL[2], form_of(2, box(2))):
            for value in NO_TUPLES + ((), (1, 2), (1, 2, 3, 4)):
                self.refused(NotRow, greatest_of, form, value, place=-1)
            for value in NO_INTEGERS:
                self.refused(NotRow, greatest_of, form, (1, value, 3), place=1)
                self.refused(NotRow, greatest_of, form, (1, 2, value), place=2)
        for dimension in DIMENSIONS:
            self.refused(Empty, greatest_of, EMPTY[dimension], unit(dimension, 0))
            self.refused(Empty, greatest_of, EMPTY[dimension], (0,) * (dimension + 1))
        self.refused(NotRow, greatest_of, EMPTY[1], (1, 0, 0), place=-1)


class Boxes(SolidCase):

    def test_worked_by_hand(self):
        self.same(box_of(form=form_of(2, box(2, 0, 1, ("ge", "lt")))),
                  ((((0, 1), True), ((1, 1), False)), (((0, 1), True), ((1, 1), False))))
        self.same(box_of(form_of(3, lone(1, -2, 3))),
                  tuple((((number, 1), True), ((number, 1), True)) for number in (1, -2, 3)))
        self.same(box_of(form_of(2, ("and", ("is", "gt", (2, 0, -1)), ("is", "le", (1, 1, 0))))),
                  ((((1, 2), False), None), (None, ((-1, 2), False))))
        self.same(box_of(form_of(2, ("is", "eq", (0, 3, -1)))), ((None, None), (((1, 3), True), ((1, 3), True))))
        for dimension in DIMENSIONS:
            self.same(box_of(ALL[dimension]), ((None, None),) * dimension)
        self.same(box_of(points_of_line(range(60))), ((((0, 1), True), ((59, 1), True)),))

    def test_empty(self):
        for dimension in DIMENSIONS:
            self.refused(Empty, box_of, EMPTY[dimension])

    def test_each_coordinate(self):
        for dimension in DIMENSIONS:
            for form in some_forms(dimension, 25, 5, 215):
                if form[2]:
                    found = box_of(form)
                    self.assertEqual(len(found), dimension)
                    for place, (low, high) in enumerate(found):
                        self.same(high, self.bound(form, unit(dimension, place)))
                        turned = self.bound(form, tuple(-number for number in unit(dimension, place)))
                        self.same(low, None if turned is None else ((-turned[0][0], turned[0][1]), turned[1]))

    def bound(self, form, row):
        try:
            return greatest_of(form, row)
        except Endless:
            return None

    def test_turned_about(self):
        for dimension in DIMENSIONS:
            for form in some_forms(dimension, 10, 4, 216):
                if form[2]:
                    for (low, high), (own, far) in zip(box_of(form), box_of(turned_about(form))):
                        self.assertEqual([low is None, high is None], [far is None, own is None])
                        if low is not None:
                            self.same(far, ((-low[0][0], low[0][1]), low[1]))

    def test_great_numbers(self):
        form = form_from(1, ((BIG, -1), (1, -BIG)), ((1, -1), (0, -1)))
        self.same(box_of(form), ((((1, BIG), True), ((BIG, 1), False)),))


if __name__ == "__main__":
    unittest.main()
