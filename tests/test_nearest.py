"""Promise [66]: the nearest points of sets, and how far two sets are from one another."""

import unittest
from fractions import Fraction
from random import Random

from formed import ALL, EMPTY, bounded_forms, box, hard_to_close, lone, points_of_line, some_forms, told_forms
from helping import NO_TUPLES, SolidCase, numbers_at, pair, told
from making import small_points
from onesolid.cells import point_in
from onesolid.deeds import are_apart, closed, either, inner, less, rest
from onesolid.errors import Empty, NotPoint, TooGreat, Unlike
from onesolid.faces import cell_faces
from onesolid.forms import form_of, has_point
from onesolid.images import shifted, turned_about
from onesolid.nearest import distance, is_nearest_pair, nearest, nearest_pair
from onesolid.points import between, moved_by
from onesolid.sums import sum_of

DIMENSIONS = (1, 2, 3)
SQUARE = form_of(2, box(2))
OPEN = inner(SQUARE)
LEFT = form_of(2, ("is", "le", (1, 0, 0)))
RIGHT = form_of(2, ("is", "ge", (1, 0, -3)))


def square_of(point, other):
    return sum((a - b) ** 2 for a, b in zip(numbers_at(point), numbers_at(other)))


def points_near(form, random):
    """Points of the closure of a set: one of each face of its cells, and some between."""
    dimension, planes, cells = form
    found = set()
    for signs in cells:
        for face in cell_faces(dimension, planes, signs):
            found.add(point_in(dimension, planes, face))
    found = sorted(found)
    more = [between(random.choice(found), random.choice(found), (1, 3)) for _ in range(20)]
    whole = closed(form)
    return found + [point for point in more if has_point(whole, point)]


class Nearest(SolidCase):

    def test_worked_by_hand(self):
        self.same(nearest(form=SQUARE, point=(5, 5, 1)), ((32, 1), ((1, 1, 1),), (True,)))
        self.same(nearest(OPEN, (5, 5, 1)), ((32, 1), ((1, 1, 1),), (False,)))
        self.same(nearest(SQUARE, (1, 1, 2)), ((0, 1), ((1, 1, 2),), (True,)))
        self.same(nearest(SQUARE, (0, 1, 2)), ((0, 1), ((0, 1, 2),), (True,)))
        self.same(nearest(OPEN, (0, 1, 2)), ((0, 1), ((0, 1, 2),), (False,)))
        self.same(nearest(SQUARE, (-1, 1, 2)), ((1, 4), ((0, 1, 2),), (True,)))
        # In the middle of a hole; between two parts.
        self.same(nearest(rest(OPEN), (1, 1, 2)),
                  ((1, 4), ((0, 1, 2), (1, 0, 2), (1, 2, 2), (2, 1, 2)), (True, True, True, True)))
        self.same(nearest(rest(SQUARE), (1, 1, 2))[2], (False,) * 4)
        half = form_of(1, ("or", ("is", "lt", (1, 1)), ("is", "ge", (1, -1))))
        self.same(nearest(half, (0, 1)), ((1, 1), ((-1, 1), (1, 1)), (False, True)))
        self.same(nearest(form_of(2, ("is", "eq", (1, 2, 0))), (1, 0, 1)), ((1, 5), ((4, -2, 5),), (True,)))
        self.same(nearest(form_of(3, lone(1, 2, 3)), (0, 0, 0, 1)), ((14, 1), ((1, 2, 3, 1),), (True,)))
        for dimension in DIMENSIONS:
            point = (1,) * dimension + (3,)
            self.same(nearest(ALL[dimension], point), ((0, 1), (point,), (True,)))
            self.same(nearest(rest(form_of(dimension, lone(*[0] * dimension))), (0,) * dimension + (1,)),
                      ((0, 1), ((0,) * dimension + (1,),), (False,)))

    def test_no_point_is_nearer(self):
        random = Random(410)
        for dimension, many in ((1, 20), (2, 20), (3, 8)):
            for form in some_forms(dimension, many, 5, 411):
                if not form[2]:
                    continue
                try:
                    whole = closed(form)
                except TooGreat:
                    continue
                tried = points_near(form, random)
                for point in small_points(dimension, 4, random.random()):
                    square, points, mets = nearest(form, point)
                    self.assertEqual(list(points), sorted(set(points)))
                    for own, is_met in zip(points, mets):
                        self.assertTrue(has_point(whole, own))
                        self.assertIs(is_met, has_point(form, own))
                        self.assertEqual(square_of(point, own), told(square))
                    for other in tried:
                        self.assertGreaterEqual(square_of(point, other), told(square))
                        if square_of(point, other) == told(square):
                            self.assertIn(other, points)
                    self.alone_in_its_cell(form, point, points)

    def alone_in_its_cell(self, form, point, points):
        """The words of the fact: a nearest point of a convex set is at a right angle or more from all others."""
        dimension, planes, cells = form
        for signs in cells[:6]:
            own = (dimension, planes, (signs,))
            targets = [point_in(dimension, planes, face) for face in cell_faces(dimension, planes, signs)]
            for near in points:
                inside = [a == b or a == 0 for a, b in zip(self.signs(planes, near), signs)]
                if all(inside):
                    for target in targets:
                        angle = sum((a - b) * (c - b) for a, b, c in zip(numbers_at(point), numbers_at(near),
                                                                         numbers_at(target)))
                        self.assertLessEqual(angle, 0)
            self.assertEqual(len(own), 3)

    def signs(self, planes, point):
        values = [sum(a * x for a, x in zip(plane, numbers_at(point))) + plane[-1] for plane in planes]
        return tuple((value > 0) - (value < 0) for value in values)

    def test_refusals(self):
        self.refuses_what_is_no_point(lambda value: nearest(SQUARE, value))
        self.refuses_what_is_no_point(lambda value: nearest(EMPTY[2], value))
        for dimension in DIMENSIONS:
            self.refused(Empty, nearest, EMPTY[dimension], (0,) * dimension + (1,))
        form = hard_to_close()
        self.refused(TooGreat, nearest, form, (0, 0, 0, 1), most=16)
        self.refused(NotPoint, nearest, form, (0, 0, 0, 0), place=3)


class Distance(SolidCase):

    def test_worked_by_hand(self):
        self.same(distance(form=LEFT, other=RIGHT), ((9, 1), True))
        self.same(distance(inner(LEFT), RIGHT), ((9, 1), False))
        self.same(distance(LEFT, inner(RIGHT)), ((9, 1), False))
        far = form_of(2, box(2, 4, 5))
        self.same(distance(SQUARE, far), ((18, 1), True))
        self.same(distance(OPEN, far), ((18, 1), False))
        self.same(nearest_pair(form=SQUARE, other=far), ((1, 1, 1), (4, 4, 1)))
        # Touching sets, one of them open there, both open there, crossing ones.
        beside = form_of(2, ("and", ("is", "ge", (1, 0, -1)), ("is", "ge", (0, 1, 0))))
        self.same(distance(SQUARE, beside), ((0, 1), True))
        self.same(distance(OPEN, beside), ((0, 1), False))
        self.same(distance(SQUARE, inner(beside)), ((0, 1), False))
        self.same(distance(SQUARE, SQUARE), ((0, 1), True))
        self.same(distance(SQUARE, form_of(2, ("is", "eq", (1, -1, 0)))), ((0, 1), True))
        # Stripes beside one another, which are met, met at some places alone, or nowhere.
        stripe = form_of(2, ("and", ("is", "ge", (0, 1, -2)), ("is", "lt", (0, 1, -3))))
        over = form_of(2, ("or", ("is", "gt", (0, 1, -5)), ("and", ("is", "eq", (0, 1, -5)), ("is", "eq", (1, 0, -7)))))
        self.same(distance(form_of(2, ("is", "le", (0, 1, 0))), stripe), ((4, 1), True))
        self.same(distance(stripe, over), ((4, 1), False))
        self.same(distance(closed(stripe), over), ((4, 1), True))
        hole = less(closed(stripe), form_of(2, ("and", ("is", "eq", (0, 1, -3)), ("is", "ge", (1, 0, 0)))))
        self.same(distance(hole, over), ((4, 1), False))
        self.same(distance(either(hole, form_of(2, lone(7, 3))), over), ((4, 1), True))
        # Two lines of space, parallel planes, a line beside a plane.
        one = form_of(3, ("and", ("is", "eq", (0, 1, 0, 0)), ("is", "eq", (0, 0, 1, 0))))
        two = form_of(3, ("and", ("is", "eq", (1, 0, 0, 0)), ("is", "eq", (0, 0, 1, -5))))
        self.same(distance(one, two), ((25, 1), True))
        self.same(nearest_pair(one, two), ((0, 0, 0, 1), (0, 0, 5, 1)))
        self.same(distance(form_of(3, ("is", "eq", (1, 1, 1, 0))), form_of(3, ("is", "gt", (1, 1, 1, -6)))),
                  ((12, 1), False))
        slant = form_of(3, ("and", ("is", "eq", (1, -1, 0, 0)), ("is", "eq", (0, 0, 1, 2))))
        self.same(distance(slant, form_of(3, ("is", "ge", (0, 0, 1, 0)))), ((4, 1), True))
        self.same(distance(slant, form_of(3, ("and", ("is", "gt", (0, 0, 1, 0)), ("is", "lt", (0, 0, 1, -1))))),
                  ((4, 1), False))
        # A point over a side of a block, beside an edge of it, beyond a corner.
        block = form_of(3, box(3, 0, 4))
        for point, square, foot in (((1, 2, 6), 4, (1, 2, 4)), ((3, -3, 1), 9, (3, 0, 1)), ((-1, 3, -2), 5, (0, 3, 0)),
                                    ((5, 1, 6), 5, (4, 1, 4)), ((5, 6, 7), 14, (4, 4, 4)), ((1, 2, 3), 0, (1, 2, 3))):
            spot = form_of(3, lone(*point))
            self.same(distance(block, spot), ((square, 1), True))
            self.same(distance(spot, block), ((square, 1), True))
            self.same(distance(inner(block), spot), ((square, 1), square == 0))
            self.same(distance(spot, inner(block)), ((square, 1), square == 0))
            self.same(nearest_pair(spot, block), (point + (1,), foot + (1,)))
        # The nearest places are not met, but others are.
        more = either(OPEN, form_of(2, ("and", ("is", "eq", (1, 0, 5)), ("is", "ge", (0, 1, 0)),
                                        ("is", "le", (0, 1, -1)))))
        self.same(distance(more, form_of(2, ("is", "ge", (1, 0, -2)))), ((1, 1), False))
        self.same(distance(form_of(2, ("is", "ge", (1, 0, -2))), more), ((1, 1), False))
        self.same(distance(SQUARE, inner(far)), ((18, 1), False))
        self.same(distance(points_of_line((1, 5)), points_of_line((2, 9))), ((1, 1), True))
        self.same(distance(form_of(1, ("is", "lt", (2, -1))), form_of(1, ("is", "ge", (3, -4)))), ((25, 36), False))

    def test_against_points_tried(self):
        random = Random(412)
        for dimension, many in ((1, 30), (2, 30), (3, 14)):
            forms = [form for form in list(some_forms(dimension, many, 4, 413)) + list(told_forms(dimension, many, 414,
                                                                                                  3))
                     if form[2]]
            random.shuffle(forms)
            for form, other in list(zip(forms, forms[1:]))[:many]:
                try:
                    square, is_met = distance(form, other)
                    one, two = nearest_pair(form, other)
                    wholes = closed(form), closed(other)
                except TooGreat:
                    continue
                self.assertTrue(has_point(wholes[0], one) and has_point(wholes[1], two))
                self.assertEqual(square_of(one, two), told(square))
                self.assertIs(is_nearest_pair(form, other, (one, two)), True)
                self.same(distance(other, form), (square, is_met))
                self.same(distance(*wholes), (square, True))
                if has_point(form, one) and has_point(other, two):
                    self.assertIs(is_met, True)
                try:
                    if square == (0, 1):
                        self.assertIs(is_met, not are_apart(form, other))
                except TooGreat:
                    pass
                for point in points_near(form, random)[:25]:
                    found, points, mets = nearest(other, point)
                    self.assertGreaterEqual(told(found), told(square))
                    if found == square and True in mets and has_point(form, point):
                        self.assertIs(is_met, True)
                    self.assertIs(is_nearest_pair(form, other, (point, points[0])), found == square)

    def test_by_the_sum_with_the_other_set_turned_about(self):
        random = Random(419)
        seen = {True: 0, False: 0}
        for dimension, many in ((1, 40), (2, 60), (3, 15)):
            forms = [form for form in list(some_forms(dimension, many, 4, 420)) + list(bounded_forms(dimension, 8, 421))
                     if form[2]]
            for _ in range(many):
                form, other = random.choice(forms), random.choice(forms)
                other = shifted(other, tuple(random.randint(-8, 8) for _ in range(dimension)) + (1,))
                try:
                    square, _, mets = nearest(sum_of(form, turned_about(other)), (0,) * dimension + (1,))
                    found = distance(form, other)
                except TooGreat:
                    continue
                self.same(found, (square, True in mets))
                if square != (0, 1):
                    seen[found[1]] += 1
        self.assertGreater(min(seen.values()), 5)

    def test_pairs(self):
        pair_of = ((1, 1, 1), (4, 4, 1))
        far = form_of(2, box(2, 4, 5))
        self.assertIs(is_nearest_pair(form=SQUARE, other=far, value=pair_of), True)
        self.assertIs(is_nearest_pair(OPEN, far, pair_of), True)
        for value in NO_TUPLES + ((), pair_of[:1], pair_of + pair_of[:1], list(pair_of), pair_of[::-1],
                                  ((1, 1, 1), (5, 5, 1)), ((2, 2, 2), (4, 4, 1)), ((1, 1, 1), (4, 4, 0)),
                                  ((1, 1, 1), None), ((1, 1), (4, 4, 1)), ((2, 2, 1), (4, 4, 1)),
                                  ((1, 1, 1), (3, 3, 1)),
                                  ((1, 7, 1), (4, 4, 1)), ((1, 1, 1), (4, -2, 1)), ((0, 0, 1), (3, 3, 1)), (2, 2),
                                  ((1, True, 1), (4, 4, 1)), ((1, 1.0, 1), (4, 4, 1))):
            self.assertIs(is_nearest_pair(SQUARE, far, value), False)
        for height in (-3, 0, 4):
            self.assertIs(is_nearest_pair(LEFT, RIGHT, ((0, height, 1), (3, height, 1))), True)
            self.assertIs(is_nearest_pair(LEFT, RIGHT, ((0, height, 1), (3, height + 1, 1))), False)

    def test_refusals(self):
        pair_of = ((0, 0, 1), (0, 0, 1))
        calls = (distance, nearest_pair, lambda form, other: is_nearest_pair(form, other, pair_of),
                 lambda form, other: is_nearest_pair(form, other, None))
        for call in calls:
            self.refused(Unlike, call, SQUARE, ALL[3])
            self.refused(Unlike, call, EMPTY[1], EMPTY[3])
            self.refused(Empty, call, EMPTY[2], SQUARE)
            self.refused(Empty, call, SQUARE, EMPTY[2])
        form = hard_to_close()
        block = form_of(3, box(3))
        spot = (0, 0, 0, 1)
        for call in (distance, nearest_pair, lambda one, other: is_nearest_pair(one, other, (spot, spot))):
            self.refused(TooGreat, call, form, block, most=16)
            self.refused(TooGreat, call, block, form, most=16)
            self.refused(Empty, call, form, EMPTY[3])
            self.refused(Unlike, call, form, SQUARE)
        self.assertIs(is_nearest_pair(form, block, None), False)
        self.assertIs(is_nearest_pair(form, block, (spot, spot[1:])), False)

    def test_against_lone_points(self):
        random = Random(417)
        for dimension, many in ((1, 15), (2, 20), (3, 12)):
            for form in some_forms(dimension, many, 5, 418):
                for _ in range(3):
                    point = tuple(random.randint(-9, 9) for _ in range(dimension))
                    if form[2]:
                        try:
                            square, _, mets = nearest(form, point + (1,))
                        except TooGreat:
                            continue
                        self.same(distance(form, form_of(dimension, lone(*point))), (square, True in mets))
                        self.same(distance(form_of(dimension, lone(*point)), form), (square, True in mets))

    def test_moved_apart(self):
        random = Random(415)
        for form in told_forms(2, 25, 416, 3):
            if form[2]:
                point = point_in(2, form[1], random.choice(form[2]))
                other = moved_by(point, (1, 2), (3, 1))
                found = distance(form, form_of(2, ("and", ("is", "eq", (other[2], 0, -other[0])),
                                                   ("is", "eq", (0, other[2], -other[1])))))
                self.same(found[0], nearest(form, other)[0])
                self.assertIs(found[1], True in nearest(form, other)[2])
                self.assertLessEqual(told(found[0]), Fraction(45))
                self.same(pair(told(found[0])), found[0])


if __name__ == "__main__":
    unittest.main()
