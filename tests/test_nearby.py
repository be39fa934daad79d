"""Promise [39]: what a set is near its points, and the lots of cells near which it is one."""

import unittest
from fractions import Fraction
from random import Random

from formed import ALL, EMPTY, box, in_form, lone, some_forms, told_forms
from helping import SolidCase, numbers_at
from making import small_points
from onesolid.cells import cells_of, point_in
from onesolid.errors import NotPoint, TooGreat
from onesolid.forms import form_from, form_of, has_point, need_form
from onesolid.images import shifted
from onesolid.looks import look_at
from onesolid.nearby import are_near_alike, near, near_faces
from onesolid.numbers import minus
from onesolid.points import coordinates_of, point_of
from onesolid.rows import signs_at

DIMENSIONS = (1, 2, 3)
SQUARE = form_of(2, box(2, 0, 1, ("ge", "lt")))


def step_from(point, other):
    """The point that shifts the one to the other."""
    return point_of(tuple(minus(far, own) for own, far in zip(coordinates_of(point), coordinates_of(other))))


def points_of_cells(form):
    return [point_in(form[0], form[1], signs) for signs in cells_of(form[0], form[1])]


class Near(SolidCase):

    def test_worked_by_hand(self):
        self.same(near(form=SQUARE, point=(1, 1, 2)), ALL[2])
        self.same(near(SQUARE, (5, 5, 1)), EMPTY[2])
        self.same(near(SQUARE, (0, 1, 2)), form_of(2, ("is", "ge", (1, 0, 0))))
        self.same(near(SQUARE, (2, 1, 2)), form_of(2, ("is", "lt", (1, 0, -1))))
        self.same(near(SQUARE, (0, 0, 1)), form_of(2, ("and", ("is", "ge", (1, 0, 0)), ("is", "ge", (0, 1, 0)))))
        self.same(near(SQUARE, (1, 1, 1)), form_of(2, ("and", ("is", "lt", (1, 0, -1)), ("is", "lt", (0, 1, -1)))))
        self.same(near(form_of(3, lone(1, 2, 3)), (1, 2, 3, 1)), form_of(3, lone(1, 2, 3)))
        self.same(near(form_of(1, box(1)), (1, 1)), form_of(1, ("is", "le", (1, -1))))
        for dimension in DIMENSIONS:
            for form in (EMPTY[dimension], ALL[dimension]):
                self.same(near(form, (1,) * dimension + (2,)), form)

    def test_short_ways_lead_into_the_set(self):
        random = Random(150)
        short = Fraction(1, 10 ** 9)
        for dimension in DIMENSIONS:
            for form in some_forms(dimension, 15, 5, 151):
                own = points_of_cells(form)
                for point in random.sample(own, min(8, len(own))):
                    found = near(form, point)
                    self.assertIs(need_form(found), found)
                    here = numbers_at(point)
                    for target in small_points(dimension, 8, random.random()):
                        way = [far - at for at, far in zip(here, numbers_at(target))]
                        beginning = [at + short * step for at, step in zip(here, way)]
                        self.assertIs(has_point(found, target), in_form(form, beginning))
                    self.assertIs(has_point(found, point), has_point(form, point))
                    # Near the point the set near it is the set itself.
                    self.same(near(found, point), found)
                    self.same(look_at(found, point), look_at(form, point))

    def test_near_points_of_one_cell(self):
        for dimension in DIMENSIONS:
            for form in some_forms(dimension, 10, 4, 152):
                known = {}
                for point in small_points(dimension, 60, 153):
                    known.setdefault(signs_at(form[1], point), set()).add(near(form, point))
                self.assertTrue(all(len(found) == 1 for found in known.values()))

    def test_too_great(self):
        # The planes of the form are there for the sake of other places.
        form = form_with_slits()
        self.assertEqual(len(form[1]), 16)
        self.refused(TooGreat, near, form, (0, 0, 0, 1), most=16)
        self.assertEqual(len(near(form, (0, 0, 5, 1))[1]), 1)

    def test_no_point(self):
        calls = (lambda value: near(SQUARE, value), lambda value: are_near_alike(SQUARE, value, (0, 0, 1)),
                 lambda value: are_near_alike(SQUARE, (0, 0, 1), value))
        for call in calls:
            self.refuses_what_is_no_point(call)
        self.refused(NotPoint, are_near_alike, SQUARE, (0, 0, 0), None, place=2)


def form_with_slits():
    """Rays from the origin, those where two of 15 planes through it meet; the planes are slits far away from it."""
    planes = tuple((1, k, k * k, 0) for k in range(1, 16)) + ((0, 0, 1, -5),)
    inside = [signs for signs in cells_of(3, planes)
              if (signs[-1] > 0 and 0 not in signs) or (signs[-1] < 0 and signs[:-1].count(0) == 2)]
    return form_from(3, planes, tuple(inside))


class Alike(SolidCase):

    def test_worked_by_hand(self):
        self.same(are_near_alike(form=SQUARE, point=(0, 1, 2), other_point=(0, 1, 3)), True)
        self.same(are_near_alike(SQUARE, (0, 1, 2), (1, 0, 2)), False)
        self.same(are_near_alike(SQUARE, (0, 1, 2), (2, 1, 2)), False)
        self.same(are_near_alike(SQUARE, (7, 7, 1), (-3, 0, 1)), True)
        self.same(are_near_alike(SQUARE, (7, 7, 1), (1, 1, 2)), False)
        # Half spaces at two parallel planes: one and the same, but moved.
        two = form_of(1, ("or", box(1, 0, 1), box(1, 3, 4), box(1, 6, 7, ("gt", "le"))))
        self.same(are_near_alike(two, (0, 1), (3, 1)), True)
        self.same(are_near_alike(two, (0, 1), (6, 1)), False)
        self.same(are_near_alike(two, (1, 1), (7, 1)), True)
        self.same(are_near_alike(two, (0, 1), (1, 1)), False)
        # Where other planes, at which nothing changes, go through one of the points.
        form = form_of(2, ("or", ("is", "le", (0, 1, 0)), lone(0, 5)))
        self.assertEqual(len(form[1]), 3)
        self.same(are_near_alike(form, (0, 0, 1), (3, 0, 1)), True)
        self.same(are_near_alike(form, (0, 5, 1), (3, 0, 1)), False)

    def test_the_set_near_one_point_moved_to_the_other(self):
        random = Random(154)
        for dimension in DIMENSIONS:
            alike = 0
            for form in list(some_forms(dimension, 15, 5, 155)) + list(told_forms(dimension, 15, 156)):
                own = points_of_cells(form)
                for _ in range(8):
                    one, two = random.choice(own), random.choice(own)
                    wanted = shifted(near(form, one), step_from(one, two)) == near(form, two)
                    self.assertIs(are_near_alike(form, one, two), wanted)
                    self.assertIs(are_near_alike(form, two, one), wanted)
                    alike += wanted
                for point in own[:5]:
                    self.assertIs(are_near_alike(form, point, point), True)
            self.assertGreater(alike, 10)

    def test_no_form_is_asked_for(self):
        form = form_with_slits()
        self.same(are_near_alike(form, (0, 0, 0, 1), (0, 0, 0, 1)), True)
        self.same(are_near_alike(form, (0, 0, 0, 1), (0, 0, 7, 1)), False)


class NearFaces(SolidCase):

    def test_empty_and_whole(self):
        for dimension in DIMENSIONS:
            self.same(near_faces(form=EMPTY[dimension]), (((), False, ((),)),))
            self.same(near_faces(form=ALL[dimension]), (((), True, ((),)),))

    def test_worked_by_hand(self):
        self.same(near_faces(form_of(1, box(1, 0, 1, ("ge", "lt")))),
                  (((), False, ((-1, -1), (1, 1))), ((), True, ((-1, 1),)),
                   (((1, -1),), False, ((0, 1),)), (((1, 0),), True, ((-1, 0),))))
        # Of two squares side by side the sides in one line are one lot, those that lie to it from both sides are not.
        form = form_of(2, ("or", box(2), ("and", ("is", "ge", (1, 0, -5)), ("is", "le", (1, 0, -6)),
                                          ("is", "ge", (0, 1, 0)), ("is", "le", (0, 1, -1)))))
        sides = [triple for triple in near_faces(form) if triple[0] == ((0, 1, 0),)]
        self.assertEqual([(is_in, len(lot)) for _, is_in, lot in sides], [(True, 2)])
        form = form_of(1, ("or", ("is", "lt", (1, 0)), ("is", "gt", (1, -1))))
        self.assertEqual([flat for flat, _, _ in near_faces(form)], [(), (), ((1, -1),), ((1, 0),)])

    def test_lots_are_the_cells_near_which_the_set_is_one(self):
        for dimension in DIMENSIONS:
            for form in list(some_forms(dimension, 12, 4, 157)) + list(told_forms(dimension, 12, 158)):
                found = near_faces(form)
                lots = {}
                for signs in cells_of(dimension, form[1]):
                    point = point_in(dimension, form[1], signs)
                    lots.setdefault(near(form, point), []).append(signs)
                wanted = []
                for lot in lots.values():
                    point = point_in(dimension, form[1], lot[0])
                    flat = look_at(form, point)
                    wanted.append((len(flat), flat, lot[0] in form[2], tuple(lot)))
                self.same(found, tuple(triple[1:] for triple in sorted(wanted)))

    def test_they_fill_the_look(self):
        for dimension in DIMENSIONS:
            for form in some_forms(dimension, 10, 4, 159):
                for flat, is_in, lot in near_faces(form):
                    inside = form_from(dimension, form[1], lot)
                    whole = form_of(dimension, ("and",) + tuple(("is", "eq", row) for row in flat))
                    for signs in lot:
                        self.assertIs(signs in form[2], is_in)
                        self.same(near(inside, point_in(dimension, form[1], signs)), whole)


if __name__ == "__main__":
    unittest.main()
