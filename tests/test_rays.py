"""Promises [61] to [63]: stretches of rays and lines, what a ray meets first, what is seen, and shades."""

import unittest
from fractions import Fraction
from random import Random

from formed import ALL, EMPTY, MOST, box, in_form, lone, points_of_line, some_forms, told_forms
from helping import NO_INTEGERS, NO_TUPLES, SolidCase, numbers_at, pair, told, worth
from making import small_points
from onesolid.cells import cells_of, point_in
from onesolid.deeds import either, inner, less, rest
from onesolid.errors import NotPoint, NotRow, TooGreat
from onesolid.flats import flat_directions, flat_point, flat_through
from onesolid.forms import form_from, form_of, has_point
from onesolid.needed import cut_out, flats_of
from onesolid.points import moved_by, point_of
from onesolid.rays import first_met, is_seen, is_straight_in, line_stretches, met_planes, ray_stretches, shade

DIMENSIONS = (1, 2, 3)
SQUARE = form_of(2, box(2))
OPEN = form_of(2, box(2, 0, 1, ("gt", "lt")))
HALF_OPEN = form_of(2, box(2, 0, 1, ("ge", "lt")))
RING = less(form_of(2, box(2, 0, 3)), form_of(2, box(2, 1, 2, ("gt", "lt"))))


def some_rays(random, dimension, many):
    """Points and ways, some of them with a common divisor."""
    for point in small_points(dimension, many, random.random()):
        way = [random.choice((-2, -1, 0, 0, 1, 3)) for _ in range(dimension)]
        scale = random.choice((1, 1, 2, 6))
        if any(way):
            yield point, tuple(scale * step for step in way)


def at(point, way, number):
    return [x + number * step for x, step in zip(numbers_at(point), way)]


def stretches_anew(form, point, way, low):
    """The greatest stretches, by trying all numbers at which planes are 0, and one between each two."""
    turns = {Fraction(low)} if low is not None else set()
    here = numbers_at(point)
    for plane in form[1]:
        growth = sum(a * step for a, step in zip(plane, way))
        if growth:
            turns.add(-worth(plane, here) / growth)
    turns = sorted(turn for turn in turns if low is None or turn >= low)
    tries = [(turn, turn, turn) for turn in turns] + [(one, other, (one + other) / 2) for one,
                                                      other in zip(turns, turns[1:])]
    tries.append((turns[-1] if turns else None, None, turns[-1] + 1 if turns else Fraction(0)))
    if low is None and turns:
        tries.append((None, turns[0], turns[0] - 1))
    tries.sort(key=lambda entry: entry[2])
    found = []
    goes_on = False
    for one, other, number in tries:
        is_in = in_form(form, at(point, way, number))
        if is_in and goes_on:
            found[-1][2:] = [other, one == other]
        elif is_in:
            is_one = one == other and one is not None
            found.append([one, is_one, other, is_one])
        goes_on = is_in
    for entry in found:
        entry[1] = entry[1] and entry[0] is not None
        entry[3] = entry[3] and entry[2] is not None
    return tuple((a if a is None else pair(a), b, c if c is None else pair(c), d) for a, b, c, d in found)


class Ways(SolidCase):

    def calls(self):
        return (ray_stretches, line_stretches, first_met, met_planes)

    def test_refusals(self):
        for call in self.calls():
            for form in (SQUARE, EMPTY[2], ALL[2]):
                self.refuses_what_is_no_point(lambda value: call(form, value, (1, 0)))
                self.refuses_what_is_no_point(lambda value: call(form, value, None))
                for value in NO_TUPLES + ((), (1,), (1, 0, 0)):
                    self.refused(NotRow, call, form, (0, 0, 1), value, place=-1)
                for value in NO_INTEGERS:
                    self.refused(NotRow, call, form, (0, 0, 1), (value, 0), place=0)
                    self.refused(NotRow, call, form, (0, 0, 1), (0, value), place=1)
                self.refused(NotRow, call, form, (0, 0, 1), (0, 0), place=-2)
            self.refused(NotRow, call, ALL[1], (0, 1), (0,), place=-2)
            self.refused(NotRow, call, ALL[3], (0, 0, 0, 1), (0, 0, 0), place=-2)
            self.refused(NotPoint, call, ALL[3], (0, 0, 0, 2), (0, 0, 0), place=-2)


class Stretches(SolidCase):

    def test_worked_by_hand(self):
        for dimension in DIMENSIONS:
            point, way = (0,) * dimension + (1,), (2,) * dimension
            self.same(ray_stretches(form=EMPTY[dimension], point=point, way=way), ())
            self.same(line_stretches(form=EMPTY[dimension], point=point, way=way), ())
            self.same(ray_stretches(ALL[dimension], point, way), (((0, 1), True, None, False),))
            self.same(line_stretches(ALL[dimension], point, way), ((None, False, None, False),))
        # Into the square from beside it; the way counts as it is, with its common divisor.
        self.same(ray_stretches(SQUARE, (-1, 1, 2), (1, 0)), (((1, 2), True, (3, 2), True),))
        self.same(ray_stretches(SQUARE, (-1, 1, 2), (4, 0)), (((1, 8), True, (3, 8), True),))
        self.same(ray_stretches(HALF_OPEN, (-1, 1, 2), (1, 0)), (((1, 2), True, (3, 2), False),))
        self.same(ray_stretches(OPEN, (-1, 1, 2), (1, 0)), (((1, 2), False, (3, 2), False),))
        # From within, from the rim, going away.
        self.same(ray_stretches(OPEN, (1, 1, 2), (0, 1)), (((0, 1), True, (1, 2), False),))
        self.same(line_stretches(OPEN, (1, 1, 2), (0, 1)), (((-1, 2), False, (1, 2), False),))
        self.same(ray_stretches(OPEN, (0, 1, 2), (1, 0)), (((0, 1), False, (1, 1), False),))
        self.same(ray_stretches(SQUARE, (0, 1, 2), (-1, 0)), (((0, 1), True, (0, 1), True),))
        self.same(ray_stretches(OPEN, (0, 1, 2), (-1, 0)), ())
        # Along a side, through a corner alone.
        self.same(line_stretches(SQUARE, (5, 0, 1), (1, 0)), (((-5, 1), True, (-4, 1), True),))
        self.same(line_stretches(HALF_OPEN, (5, 0, 1), (1, 0)), (((-5, 1), True, (-4, 1), False),))
        self.same(line_stretches(HALF_OPEN, (5, 1, 1), (1, 0)), ())
        self.same(ray_stretches(SQUARE, (-1, 1, 1), (1, -1)), (((1, 1), True, (1, 1), True),))
        # From (-1, 2) through (0, 1) and (1, 0).
        self.same(ray_stretches(SQUARE, (-1, 2, 1), (3, -3)), (((1, 3), True, (2, 3), True),))
        # Across a hole; lone points; what has no end.
        self.same(ray_stretches(RING, (-1, 3, 2), (1, 0)), (((1, 2), True, (3, 2), True), ((5, 2), True, (7, 2), True)))
        dots = points_of_line((-2, 0, 3))
        self.same(line_stretches(dots, (0, 1), (1,)), tuple(((k, 1), True, (k, 1), True) for k in (-2, 0, 3)))
        self.same(ray_stretches(dots, (0, 1), (-1,)), (((0, 1), True, (0, 1), True), ((2, 1), True, (2, 1), True)))
        self.same(line_stretches(rest(dots), (0, 1), (1,)),
                  ((None, False, (-2, 1), False), ((-2, 1), False, (0, 1), False), ((0, 1), False, (3, 1), False),
                   ((3, 1), False, None, False)))
        slit = less(SQUARE, form_of(2, ("is", "eq", (2, 0, -1))))
        self.same(ray_stretches(slit, (0, 0, 1), (1, 0)), (((0, 1), True, (1, 2), False),
                                                           ((1, 2), False, (1, 1), True)))

    def test_told_anew(self):
        random = Random(370)
        for dimension, many in ((1, 25), (2, 25), (3, 12)):
            for form in some_forms(dimension, many, 5, 371):
                for point, way in some_rays(random, dimension, 5):
                    self.same(ray_stretches(form, point, way), stretches_anew(form, point, way, 0))
                    self.same(line_stretches(form, point, way), stretches_anew(form, point, way, None))


class FirstMet(SolidCase):

    def test_worked_by_hand(self):
        self.assertIsNone(first_met(form=EMPTY[2], point=(0, 0, 1), way=(1, 0)))
        self.assertIsNone(met_planes(form=EMPTY[2], point=(0, 0, 1), way=(1, 0)))
        self.same(first_met(ALL[2], (3, 0, 2), (1, 0)), ("met", (0, 1), (3, 0, 2)))
        self.same(met_planes(ALL[2], (3, 0, 2), (1, 0)), ())
        self.same(first_met(SQUARE, (-1, 1, 2), (1, 0)), ("met", (1, 2), (0, 1, 2)))
        self.same(first_met(SQUARE, (-1, 1, 2), (6, 0)), ("met", (1, 12), (0, 1, 2)))
        self.same(first_met(OPEN, (-1, 1, 2), (6, 0)), ("near", (1, 12), (0, 1, 2)))
        self.same(first_met(OPEN, (0, 1, 2), (1, 0)), ("near", (0, 1), (0, 1, 2)))
        self.same(first_met(SQUARE, (0, 1, 2), (-1, 0)), ("met", (0, 1), (0, 1, 2)))
        self.assertIsNone(first_met(OPEN, (0, 1, 2), (-1, 0)))
        self.assertIsNone(first_met(SQUARE, (-1, 1, 2), (-1, 0)))
        # A lone point on the ray ahead of an open set.
        form = either(form_of(2, lone(-2, 0)), form_of(2, box(2, -1, 1, ("gt", "lt"))))
        self.same(first_met(form, (-4, 0, 1), (1, 0)), ("met", (2, 1), (-2, 0, 1)))
        self.same(first_met(form, (-3, 0, 2), (1, 0)), ("near", (1, 2), (-1, 0, 1)))

    def test_planes(self):
        planes = SQUARE[1]
        self.same(planes, ((0, 1, -1), (0, 1, 0), (1, 0, -1), (1, 0, 0)))
        self.same(met_planes(SQUARE, (-1, 1, 2), (1, 0)), (3,))
        # Along a side: this one holds the whole ray.
        self.same(met_planes(SQUARE, (-1, 0, 1), (1, 0)), (3,))
        self.same(met_planes(SQUARE, (-1, -1, 1), (1, 1)), (1, 3))
        self.same(met_planes(SQUARE, (2, 0, 1), (-1, 1)), (0, 2))
        self.same(met_planes(SQUARE, (1, 1, 2), (1, 0)), ())
        self.same(met_planes(SQUARE, (1, 0, 2), (1, 0)), ())
        self.same(met_planes(SQUARE, (1, 0, 2), (0, 1)), (1,))
        self.same(met_planes(OPEN, (1, 0, 2), (0, 5)), (1,))

    def test_by_the_stretches(self):
        random = Random(372)
        for dimension, many in ((1, 20), (2, 20), (3, 10)):
            for form in some_forms(dimension, many, 5, 373):
                for point, way in some_rays(random, dimension, 6):
                    found = first_met(form, point, way)
                    stretches = ray_stretches(form, point, way)
                    if not stretches:
                        self.assertIsNone(found)
                        self.assertIsNone(met_planes(form, point, way))
                        continue
                    low, has_low, _, _ = stretches[0]
                    target = point_of(tuple(pair(number) for number in at(point, way, told(low))))
                    self.same(found, ("met" if has_low else "near", low, target))
                    numbers = [number for number, plane in enumerate(form[1])
                               if worth(plane, numbers_at(target)) == 0 and sum(a * b for a, b in zip(plane, way))]
                    self.same(met_planes(form, point, way), tuple(numbers))


class Seen(SolidCase):

    def test_worked_by_hand(self):
        self.assertIs(is_seen(form=SQUARE, point=(-1, 1, 2), other=(5, 1, 2)), False)
        self.assertIs(is_seen(SQUARE, (-1, 1, 2), (0, 1, 2)), True)
        self.assertIs(is_seen(SQUARE, (-1, 1, 2), (1, 1, 4)), False)
        self.assertIs(is_seen(OPEN, (-1, 0, 1), (5, 0, 1)), True)
        self.assertIs(is_seen(SQUARE, (-1, 1, 1), (1, -1, 1)), False)
        self.assertIs(is_seen(OPEN, (-1, 1, 1), (1, -1, 1)), True)
        self.assertIs(is_seen(RING, (1, 1, 1), (2, 2, 1)), True)
        self.assertIs(is_seen(RING, (1, 1, 1), (2, 1, 1)), False)
        # Both points are one, in the set or beside it.
        for form in (ALL[2], EMPTY[2], SQUARE, OPEN):
            self.assertIs(is_seen(form, (0, 0, 1), (0, 0, 1)), True)
            self.assertIs(is_straight_in(form, (0, 0, 1), (0, 0, 1)), form in (ALL[2], SQUARE))
        self.assertIs(is_straight_in(form=SQUARE, point=(0, 0, 1), other=(1, 1, 1)), True)
        self.assertIs(is_straight_in(HALF_OPEN, (0, 0, 1), (1, 1, 1)), False)
        self.assertIs(is_straight_in(RING, (0, 0, 1), (3, 0, 1)), True)
        self.assertIs(is_straight_in(RING, (0, 0, 1), (3, 3, 1)), False)
        self.assertIs(is_straight_in(RING, (1, 1, 1), (2, 2, 1)), False)
        self.assertIs(is_straight_in(RING, (1, 1, 1), (2, 1, 1)), True)

    def test_refusals(self):
        for call in (is_seen, is_straight_in):
            self.refuses_what_is_no_point(lambda value: call(SQUARE, value, (0, 0, 1)))
            self.refuses_what_is_no_point(lambda value: call(EMPTY[2], value, None))
            self.refuses_what_is_no_point(lambda value: call(SQUARE, (0, 0, 1), value))

    def test_by_the_stretches(self):
        random = Random(374)
        one = (1, 1)
        for dimension, many in ((1, 20), (2, 20), (3, 10)):
            for form in some_forms(dimension, many, 5, 375):
                for point, way in some_rays(random, dimension, 6):
                    other = moved_by(point, way, one)
                    inside = line_stretches(form, point, way)
                    within = any((low is None or told(low) < 0 or (told(low) == 0 and has_low))
                                 and (high is None or told(high) > 1 or (told(high) == 1 and has_high))
                                 for low, has_low, high, has_high in inside)
                    self.assertIs(is_straight_in(form, point, other), within)
                    meets = any((low is None or told(low) < 1) and (high is None or told(high) > 0)
                                for low, has_low, high, has_high in inside)
                    self.assertIs(is_seen(form, point, other), not meets)
                    self.assertIs(is_seen(form, other, point), not meets)


class Shade(SolidCase):

    def test_worked_by_hand(self):
        for dimension in DIMENSIONS:
            point = (1,) * dimension + (2,)
            self.same(shade(form=EMPTY[dimension], point=point), EMPTY[dimension])
            self.same(shade(ALL[dimension], point), rest(form_at(point)))
        # A stretch of the line, from beside it, from its end, from within.
        stretch = form_of(1, box(1))
        self.same(shade(stretch, (-1, 1)), form_of(1, ("is", "gt", (1, 0))))
        self.same(shade(stretch, (0, 1)), form_of(1, ("is", "gt", (1, 0))))
        self.same(shade(stretch, (1, 2)), rest(form_at((1, 2))))
        self.same(shade(form_of(1, lone(0)), (0, 1)), EMPTY[1])
        self.same(shade(form_of(1, lone(0)), (4, 1)), form_of(1, ("is", "lt", (1, 0))))
        # A stretch of the plane: what lies behind it.
        wall = form_of(2, ("and", ("is", "eq", (1, 0, -1)), ("is", "ge", (0, 1, 0)), ("is", "lt", (0, 1, -1))))
        self.same(shade(wall, (0, 0, 1)),
                  form_of(2, ("and", ("is", "gt", (1, 0, -1)), ("is", "ge", (0, 1, 0)), ("is", "lt", (-1, 1, 0)))))
        self.same(shade(wall, (1, 2, 1)), form_of(2, ("and", ("is", "eq", (1, 0, -1)), ("is", "lt", (0, 1, -1)))))

    def test_refusals(self):
        self.refuses_what_is_no_point(lambda value: shade(SQUARE, value))
        self.refuses_what_is_no_point(lambda value: shade(EMPTY[2], value))

    def test_told_anew(self):
        random = Random(376)
        for dimension, many in ((1, 20), (2, 15), (3, 5)):
            for form in list(some_forms(dimension, many, 3, 377)) + list(told_forms(dimension, many, 378, 3)):
                own = [point_in(dimension, form[1], signs) for signs in cells_of(dimension, form[1])]
                for point in random.sample(own, 1) + small_points(dimension, 1, random.random()):
                    looked = self.looked_at(form, point)
                    if len(looked) > MOST[dimension]:
                        self.refused(TooGreat, shade, form, point, most=MOST[dimension])
                        continue
                    found = shade(form, point)
                    inside = []
                    for signs in cells_of(dimension, looked):
                        target = point_in(dimension, looked, signs)
                        if target != point and not is_seen(form, point, target):
                            inside.append(signs)
                    self.same(found, form_from(dimension, looked, tuple(inside)))
                    for target in small_points(dimension, 8, random.random()):
                        is_in = target != point and not is_seen(form, point, target)
                        self.assertIs(has_point(found, target), is_in)

    def looked_at(self, form, point):
        flats = [flat_through((point,))] + list(flats_of(form))
        for flat in flats_of(form):
            base = flat_point(form[0], flat)
            points = [base] + [moved_by(base, step, (1, 1)) for step in flat_directions(form[0], flat)]
            flats.append(flat_through(tuple([point] + points)))
        return cut_out(form[0], tuple(flat for flat in flats if flat != ()))

    def test_too_great(self):
        dots = form_from(2, ((0, 1, 0),) + tuple((1, 0, -k) for k in range(22)),
                         tuple(tuple([0] + [int(k > j) - int(k < j) for j in range(22)]) for k in range(22)))
        self.refused(TooGreat, shade, dots, (0, 1, 1), most=24)
        self.refused(NotPoint, shade, dots, (0, 1, 0), place=2)
        self.assertEqual(len(shade(dots, (0, 0, 1))[1]), 2)
        lot = points_of_line(range(60))
        self.refused(TooGreat, shade, lot, (1, 2), most=60)
        self.same(shade(lot, (0, 1)), form_of(1, ("is", "gt", (1, -1))))

    def test_behind_a_point_all_belongs(self):
        random = Random(379)
        for dimension, many in ((2, 12), (3, 4)):
            for form in some_forms(dimension, many, 3, 380):
                for point in small_points(dimension, 2, random.random()):
                    try:
                        found = shade(inner(form), point)
                    except TooGreat:
                        continue
                    for signs in found[2][:12]:
                        target = point_in(dimension, found[1], signs)
                        behind = [b + 2 * (b - a) for a, b in zip(numbers_at(point), numbers_at(target))]
                        self.assertTrue(in_form(found, behind))


def form_at(point):
    """The form of one point."""
    dimension = len(point) - 1
    parts = []
    for place in range(dimension):
        row = [0] * dimension
        row[place] = point[-1]
        parts.append(("is", "eq", tuple(row) + (-point[place],)))
    return form_of(dimension, ("and",) + tuple(parts))


if __name__ == "__main__":
    unittest.main()
