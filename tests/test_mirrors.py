"""Promise [65]: points and ways mirrored at planes, and rays that bounce off a set."""

import unittest
from fractions import Fraction
from math import gcd
from random import Random

from formed import ALL, EMPTY, box, hard_to_close, lone, some_forms
from helping import BIG, NO_INTEGERS, NO_TUPLES, OTHER_BIG, SolidCase, numbers_at, pair, worth
from making import small_points
from onesolid.deeds import closed, either, inner, less, rest
from onesolid.errors import NotPoint, NotRow, TooGreat, Unlike
from onesolid.flats import on_flat
from onesolid.forms import form_of, has_point
from onesolid.mirrors import bounces, mirrored, mirrored_way
from onesolid.needed import flats_of
from onesolid.points import direction_of, point_of
from onesolid.rays import first_met, ray_stretches
from onesolid.rows import plane_of

SQUARE = form_of(2, box(2))
CUBE = form_of(3, box(3))
# Two walls of the plane, facing each other, and a room with a way out.
WALLS = form_of(2, ("or", ("is", "le", (1, 0, 0)), ("is", "ge", (1, 0, -2))))


def mirror_anew(plane, coordinates):
    square = sum(a * a for a in plane[:-1])
    return [x - 2 * Fraction(worth(plane, coordinates)) * a / square for x, a in zip(coordinates, plane)]


class Mirrored(SolidCase):

    def test_worked_by_hand(self):
        self.same(mirrored(plane=(1, 0, -2), point=(1, 5, 1)), (3, 5, 1))
        self.same(mirrored((1, 1, 0), (1, 0, 1)), (0, -1, 1))
        self.same(mirrored((1, 2, 0), (1, 0, 1)), (3, -4, 5))
        self.same(mirrored((2, -1), (0, 1)), (1, 1))
        self.same(mirrored((0, 0, 3, -1), (1, 2, 3, 6)), (1, 2, 1, 6))
        self.same(mirrored_way(plane=(1, 0, -2), way=(1, 5)), (-1, 5))
        self.same(mirrored_way((1, 0, 7), (2, 10)), (-1, 5))
        self.same(mirrored_way((1, 2, 0), (1, 0)), (3, -4))
        self.same(mirrored_way((2, -1), (6,)), (-1,))
        self.same(mirrored_way((0, 1, 0, 4), (0, -3, 0)), (0, 1, 0))

    def test_told_anew(self):
        random = Random(400)
        for dimension in (1, 2, 3):
            for point in small_points(dimension, 60, 401):
                plane = plane_of(tuple(random.choice((-3, -1, 0, 1, 2, 5)) for _ in range(dimension + 1)))
                way = tuple(random.choice((-4, -2, 0, 1, 2, 6)) for _ in range(dimension))
                if plane is None or not any(way):
                    continue
                found = mirrored(plane, point)
                self.same(found, point_of(tuple(pair(x) for x in mirror_anew(plane, numbers_at(point)))))
                self.same(mirrored(plane, found), point)
                central = plane[:-1] + (0,)
                turned = mirror_anew(central, [Fraction(step) for step in way])
                scale = sum(a * a for a in plane[:-1])
                self.same(mirrored_way(plane, way), direction_of(tuple(int(x * scale) for x in turned)))
                self.same(mirrored_way(plane, mirrored_way(plane, way)), direction_of(way))

    def test_long_numbers(self):
        plane = (BIG, OTHER_BIG, 3)
        self.assertEqual(gcd(BIG, OTHER_BIG), 1)
        point = (OTHER_BIG, 1, BIG)
        found = mirrored(plane, point)
        self.same(found, point_of(tuple(pair(x) for x in mirror_anew(plane, numbers_at(point)))))
        self.same(mirrored(plane, found), point)
        self.same(mirrored_way(plane, mirrored_way(plane, (1, 7))), (1, 7))

    def test_planes_that_are_none(self):
        for call in (mirrored, mirrored_way):
            for value in NO_TUPLES + ((), (1,), (1, 0, 0, 0, 0)):
                self.refused(NotRow, call, value, None, place=-1)
                self.refused(NotRow, call, value, (0, 0, 1), place=-1)
            for value in NO_INTEGERS:
                self.refused(NotRow, call, (value, 1), None, place=0)
                self.refused(NotRow, call, (1, 0, value), (0,), place=2)
                self.refused(NotRow, call, (1, value, value, 0), (0,), place=1)
            for value in ((0, 1), (0, 0, 0), (2, 0), (-1, 0), (2, 4, 6), (0, -1, 5), (0, 0, 0, 1)):
                self.refused(NotRow, call, value, None, place=-2)

    def test_points_and_ways_that_are_none(self):
        self.refuses_what_is_no_point(lambda value: mirrored((1, 1, 0), value))
        self.refused(NotPoint, mirrored, (1, 0), (1, 1, 1), place=-1)
        self.refused(NotPoint, mirrored, (1, 0, 0, 0), (1, 1, 1), place=-1)
        for value in NO_TUPLES + ((), (1,), (1, 0, 0)):
            self.refused(NotRow, mirrored_way, (1, 1, 0), value, place=-1)
        for value in NO_INTEGERS:
            self.refused(NotRow, mirrored_way, (1, 1, 0), (value, 0), place=0)
            self.refused(NotRow, mirrored_way, (1, 1, 0), (1, value), place=1)
        self.refused(NotRow, mirrored_way, (1, 1, 0), (0, 0), place=-2)


class Bounces(SolidCase):

    def test_worked_by_hand(self):
        self.same(bounces(form=SQUARE, point=(-1, 1, 1), way=(-1, 0), many=3), ((), ("away",)))
        self.same(bounces(EMPTY[2], (-1, 1, 1), (1, 0), 3), ((), ("away",)))
        # A side; a corner; an end of a side; a side's plane that holds a lone point elsewhere.
        roof = form_of(2, ("is", "ge", (0, 1, -3)))
        self.same(bounces(roof, (0, 0, 1), (2, 2), 3), (((((3, 3, 1), (0, 1, -3), (1, -1)),)), ("away",)))
        self.same(bounces(SQUARE, (-1, -1, 1), (1, 1), 3), ((), ("edge", (0, 0, 1))))
        self.same(bounces(SQUARE, (-1, 1, 2), (1, 0), 3)[1][0], "away")
        # Between two walls, straight and slant.
        self.same(bounces(WALLS, (1, 0, 1), (1, 0), 0), ((), ("many", (2, 0, 1))))
        right, left = ((2, 0, 1), (1, 0, -2), (-1, 0)), ((0, 0, 1), (1, 0, 0), (1, 0))
        self.same(bounces(WALLS, (1, 0, 1), (1, 0), 1), ((right,), ("many", (0, 0, 1))))
        self.same(bounces(WALLS, (1, 0, 1), (3, 0), 3), ((right, left, right), ("many", (0, 0, 1))))
        found = bounces(WALLS, (1, 0, 1), (1, 1), 8)
        self.same(found, (tuple(((2, 1 + 2 * k, 1), (1, 0, -2), (-1, 1)) if k % 2 == 0 else
                                ((0, 1 + 2 * k, 1), (1, 0, 0), (1, 1)) for k in range(8)), ("many", (2, 17, 1))))
        # Just as often as it may, and away.
        wedge = form_of(2, ("or", ("is", "le", (0, 1, 0)), ("is", "ge", (-1, 1, 0))))
        many = len(bounces(wedge, (8, 1, 1), (-1, 0), 8)[0])
        self.assertEqual(bounces(wedge, (8, 1, 1), (-1, 0), 8)[1], ("away",))
        self.assertEqual(bounces(wedge, (8, 1, 1), (-1, 0), many)[1], ("away",))
        self.assertEqual(bounces(wedge, (8, 1, 1), (-1, 0), many - 1)[1][0], "many")

    def test_sets_that_are_open_or_thin(self):
        # The closure bounces, whether its points belong to the set or not.
        for form in (SQUARE, inner(SQUARE)):
            self.same(bounces(form, (1, -1, 2), (0, 1), 2), ((((1, 0, 2), (0, 1, 0), (0, -1)),), ("away",)))
        line = form_of(2, ("is", "eq", (1, 1, 0)))
        self.same(bounces(line, (1, 1, 1), (-1, 0), 2), ((((-1, 1, 1), (1, 1, 0), (0, 1)),), ("away",)))
        self.refused(Unlike, bounces, rest(line), (1, 1, 1), (-1, 0), 2)
        # A slit that is missing belongs to the closure; a wall that another flat crosses is an edge there.
        self.refused(Unlike, bounces, inner(SQUARE), (0, 0, 1), (1, 0), 2)
        dotted = less(form_of(2, ("is", "ge", (1, 0, 0))), form_of(2, lone(0, 0)))
        self.same(bounces(dotted, (-1, 0, 1), (1, 0), 2), ((), ("edge", (0, 0, 1))))
        self.same(bounces(dotted, (-1, 1, 1), (1, 0), 2), ((((0, 1, 1), (1, 0, 0), (-1, 0)),), ("away",)))
        # The plane of a side far away goes through the point.
        crossing = either(form_of(2, ("is", "ge", (1, 0, 0))), form_of(2, ("and", ("is", "le", (1, 0, 5)),
                                                                             ("is", "ge", (0, 1, 0)))))
        self.same(bounces(crossing, (-1, 0, 1), (1, 0), 2), ((), ("edge", (0, 0, 1))))

    def test_in_space(self):
        found = bounces(CUBE, (1, 1, -3, 2), (0, 0, 5), 4)
        self.same(found, ((((1, 1, 0, 2), (0, 0, 1, 0), (0, 0, -1)),), ("away",)))
        self.same(bounces(CUBE, (0, 1, -3, 2), (0, 0, 5), 4), ((), ("edge", (0, 1, 0, 2))))
        self.same(bounces(form_of(3, lone(1, 2, 3)), (0, 0, 0, 1), (1, 2, 3), 4), ((), ("edge", (1, 2, 3, 1))))

    def test_facts(self):
        random = Random(402)
        hops_seen = 0
        for dimension, many in ((2, 60), (3, 20)):
            for form in some_forms(dimension, many, 5, 403):
                try:
                    closure = closed(form)
                except TooGreat:
                    continue
                for point in small_points(dimension, 5, random.random()):
                    way = tuple(random.choice((-3, -1, 0, 1, 2)) for _ in range(dimension))
                    if not any(way):
                        continue
                    if has_point(closure, point):
                        self.refused(Unlike, bounces, form, point, way, 5)
                        continue
                    most = random.randint(0, 8)
                    hops, end = bounces(form, point, way, most)
                    hops_seen += len(hops)
                    self.assertLessEqual(len(hops), most)
                    self.follow(form, closure, point, way, hops, end, most)
        self.assertGreater(hops_seen, 40)

    def follow(self, form, closure, point, way, hops, end, most):
        flats = flats_of(form)
        for place, plane, direction in hops:
            self.assertEqual(self.next_point(closure, point, way), place)
            self.assertEqual([flat for flat in flats if on_flat(flat, place)], [(plane,)])
            self.same(direction, mirrored_way(plane, way))
            point, way = place, direction
        following = self.next_point(closure, point, way)
        if following is None:
            self.assertEqual(end, ("away",))
            return
        through = [flat for flat in flats if on_flat(flat, following)]
        if len(through) == 1 and len(through[0]) == 1:
            self.same(end, ("many", following))
            self.assertEqual(len(hops), most)
        else:
            self.same(end, ("edge", following))

    def next_point(self, closure, point, way):
        """The first point of the closure behind the beginning of the ray."""
        stretches = [entry for entry in ray_stretches(closure, point, way) if entry[2] != (0, 1)]
        if not stretches:
            return None
        start = numbers_at(point)
        number = Fraction(*stretches[0][0])
        self.assertGreater(number, 0)
        return point_of(tuple(pair(x + number * step) for x, step in zip(start, way)))

    def test_unfolded(self):
        hops, end = bounces(WALLS, (1, 0, 2), (3, 1), 6)
        point = end[1]
        for place, plane, _ in hops[::-1]:
            point = mirrored(plane, point)
        self.same(point, first_met(form_of(2, ("is", "ge", (1, 0, -14))), (1, 0, 2), (3, 1))[2])

    def test_refusals(self):
        for form in (SQUARE, ALL[2]):
            self.refuses_what_is_no_point(lambda value: bounces(form, value, None, 1))
            for value in NO_TUPLES + ((), (1,), (1, 0, 0)):
                self.refused(NotRow, bounces, form, (5, 5, 1), value, 1, place=-1)
            for value in NO_INTEGERS:
                self.refused(NotRow, bounces, form, (5, 5, 1), (1, value), 1, place=1)
            self.refused(NotRow, bounces, form, (5, 5, 1), (0, 0), 1, place=-2)
        for form in (EMPTY[1], ALL[1], form_of(1, box(1))):
            self.refused(Unlike, bounces, form, (7, 1), (1,), 1)
            self.refused(NotRow, bounces, form, (7, 1), (0,), 1, place=-2)
            self.refused(NotPoint, bounces, form, (7, 0), (0,), 1, place=1)
        for point in ((0, 0, 1), (1, 1, 2)):
            self.refused(Unlike, bounces, SQUARE, point, (1, 0), 1)
            self.refused(Unlike, bounces, inner(SQUARE), point, (1, 0), 1)

    def test_too_great(self):
        form = hard_to_close()
        for point in ((0, 0, 0, 1), (0, 0, -999, 1)):
            self.refused(TooGreat, bounces, form, point, (1, 0, 0), 1, most=16)
            self.refused(NotRow, bounces, form, point, (0, 0, 0), 1, place=-2)
        self.refused(NotPoint, bounces, form, (0, 0, 0, 0), (0, 0, 0), 1, place=3)


if __name__ == "__main__":
    unittest.main()
