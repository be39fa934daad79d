"""Promise [52]: volumes, slices, moments and centres of bounded sets."""

import unittest
from fractions import Fraction
from random import Random

from formed import ALL, EMPTY, bounded_forms, box, lone, points_of_line, unit
from helping import SolidCase, pair, told
from making import small_points
from onesolid.cuttings import cutting, set_corners
from onesolid.deeds import both, closed, either, inner, less, rest
from onesolid.errors import Empty, Endless, Flat, TooGreat
from onesolid.forms import form_of
from onesolid.images import drawn_on, shifted, slice_at
from onesolid.measures import centre, moments, slices, volume
from onesolid.points import coordinates_of
from onesolid.simplices import simplex_volume

DIMENSIONS = (1, 2, 3)
SQUARE = form_of(2, box(2))
CUBE = form_of(3, box(3))
HOLLOW = less(form_of(3, box(3, 0, 3)), form_of(3, box(3, 1, 2, ("gt", "lt"))))
TRIANGLE = form_of(2, ("and", ("is", "ge", (1, 0, 0)), ("is", "ge", (0, 1, 0)), ("is", "lt", (2, 1, -6))))
SEGMENT = form_of(2, ("and", ("is", "eq", (1, -1, 0)), ("is", "ge", (1, 0, 0)), ("is", "le", (1, 0, -4))))


def over_slabs(form, weigh):
    """The integral of the slices' volumes, each times a number told by its height, a polynomial of degree 2 at most.

    Between two heights the volumes are a polynomial of degree 2; it goes through the three that slices tells.
    """
    total = Fraction(0)
    for low, high, *areas in slices(form):
        low, high = told(low), told(high)
        first, second, third = [told(area) for area in areas]
        square = 8 * (first - 2 * second + third)
        slant = 2 * (third - first) - square
        lift = second - square / 4 - slant / 2
        # Simpson's rule on halves and Boole's rule are exact up to degree 5.
        shares = (7, 32, 12, 32, 7)
        for number, share in enumerate(shares):
            step = Fraction(number, 4)
            height = low + step * (high - low)
            worth = square * step * step + slant * step + lift
            total += (high - low) * Fraction(share, 90) * worth * weigh(height)
    return total


def last_ones(form):
    """The volume and the integrals of the last coordinate and of its square, by slices alone."""
    return [over_slabs(form, weigh) for weigh in (lambda x: 1, lambda x: x, lambda x: x * x)]


class Volume(SolidCase):

    def test_worked_by_hand(self):
        self.same(volume(form=SQUARE), (1, 1))
        self.same(volume(CUBE), (1, 1))
        self.same(volume(HOLLOW), (26, 1))
        self.same(volume(TRIANGLE), (9, 1))
        self.same(volume(form_of(1, ("and", ("is", "gt", (2, -1)), ("is", "le", (3, -7))))), (11, 6))
        self.same(volume(points_of_line(range(20))), (0, 1))
        self.same(volume(SEGMENT), (0, 1))
        self.same(volume(form_of(3, lone(1, 2, 3))), (0, 1))
        self.same(volume(either(SQUARE, SEGMENT)), (1, 1))
        self.same(volume(form_of(3, ("and", ("is", "gt", (1, 0, 0, 0)), ("is", "gt", (0, 1, 0, 0)),
                                     ("is", "gt", (0, 0, 1, 0)), ("is", "lt", (3, 2, 1, -6))))), (6, 1))
        for dimension in DIMENSIONS:
            self.same(volume(EMPTY[dimension]), (0, 1))

    def test_endless(self):
        for dimension in DIMENSIONS:
            for form in (ALL[dimension], rest(form_of(dimension, box(dimension))),
                         form_of(dimension, ("or", lone(*[0] * dimension), ("is", "gt", unit(dimension, 0, -5))))):
                self.refused(Endless, volume, form)
                self.refused(Endless, moments, form)
                self.refused(Endless, centre, form)
                if dimension > 1:
                    self.refused(Endless, slices, form)
        # Without a volume, but without an end.
        line = form_of(2, ("is", "eq", (1, 1, 0)))
        for call in (volume, slices, moments, centre):
            self.refused(Endless, call, line)

    def test_of_the_cutting_and_of_slices(self):
        for dimension, many in ((1, 20), (2, 15), (3, 6)):
            for form in bounded_forms(dimension, many, 310):
                found = volume(form)
                self.assertEqual(told(found), sum(told(simplex_volume(simplex)) for simplex in cutting(form)))
                self.same(volume(closed(form)), found)
                self.same(volume(inner(form)), found)
                if dimension > 1:
                    total = sum((told(high) - told(low)) * (2 * told(a) - told(b) + 2 * told(c)) / 3
                                for low, high, a, b, c in slices(form))
                    self.same(found, pair(total))

    def test_of_two_sets(self):
        for dimension, many in ((1, 10), (2, 8), (3, 3)):
            forms = list(bounded_forms(dimension, many, 311))
            for form, other in zip(forms, forms[1:]):
                try:
                    shared, union = both(form, other), either(form, other)
                except TooGreat:
                    continue
                self.assertEqual(told(volume(shared)) + told(volume(union)), told(volume(form)) + told(volume(other)))

    def test_led_by_a_table(self):
        tables = {1: (((-3, 5),), 3), 2: (((2, 1, 0), (1, -2, 7)), 5),
                  3: (((1, 1, 0, 0), (0, 2, 0, 1), (1, 0, 1, 3)), 2)}
        for dimension, many in ((1, 15), (2, 10), (3, 4)):
            table, scale = tables[dimension]
            for form in bounded_forms(dimension, many, 312):
                try:
                    led = drawn_on(form, table)
                except TooGreat:
                    continue
                self.assertEqual(told(volume(led)), scale * told(volume(form)))


class Slices(SolidCase):

    def test_worked_by_hand(self):
        self.same(slices(form=SQUARE), (((0, 1), (1, 1), (1, 1), (1, 1), (1, 1)),))
        self.same(slices(TRIANGLE), (((0, 1), (6, 1), (9, 4), (3, 2), (3, 4)),))
        full, ring = (9, 1), (8, 1)
        self.same(slices(HOLLOW), (((0, 1), (1, 1), full, full, full), ((1, 1), (2, 1), ring, ring, ring),
                                   ((2, 1), (3, 1), full, full, full)))
        self.same(slices(SEGMENT), (((0, 1), (4, 1), (0, 1), (0, 1), (0, 1)),))
        corner = form_of(3, ("and", ("is", "ge", (1, 0, 0, 0)), ("is", "ge", (0, 1, 0, 0)),
                             ("is", "ge", (0, 0, 1, 0)), ("is", "le", (1, 1, 1, -4))))
        self.same(slices(corner), (((0, 1), (4, 1), (9, 2), (2, 1), (1, 2)),))
        apart = form_of(2, ("or", box(2), lone(0, 7)))
        self.same(slices(apart)[1], ((1, 1), (7, 1), (0, 1), (0, 1), (0, 1)))
        for dimension in (2, 3):
            self.same(slices(EMPTY[dimension]), ())
            self.same(slices(form_of(dimension, lone(*[3] * dimension))), ())

    def test_against_slices(self):
        for dimension, many in ((2, 12), (3, 4)):
            for form in bounded_forms(dimension, many, 313):
                heights = sorted({told(coordinates_of(point)[-1]) for point in set_corners(form)})
                found = slices(form)
                self.assertEqual([told(low) for low, *_ in found], heights[:-1])
                self.assertEqual([told(entry[1]) for entry in found], heights[1:])
                for low, high, *areas in found:
                    for number, area in enumerate(areas):
                        level = told(low) + Fraction(number + 1, 4) * (told(high) - told(low))
                        self.same(area, volume(slice_at(form, pair(level))))


class Moments(SolidCase):

    def test_worked_by_hand(self):
        third, quarter, half = (1, 3), (1, 4), (1, 2)
        self.same(moments(form=SQUARE), ((1, 1), (half, half), ((third, quarter), (quarter, third))))
        self.same(moments(form_of(1, box(1, -1, 3))), ((4, 1), ((4, 1),), (((28, 3),),)))
        self.same(moments(SEGMENT), ((0, 1), ((0, 1), (0, 1)), (((0, 1), (0, 1)), ((0, 1), (0, 1)))))
        for dimension in DIMENSIONS:
            nought = ((0, 1),) * dimension
            self.same(moments(EMPTY[dimension]), ((0, 1), nought, (nought,) * dimension))

    def test_of_the_last_coordinate(self):
        for dimension, many in ((2, 12), (3, 4)):
            for form in bounded_forms(dimension, many, 314):
                bulk, first, second = moments(form)
                self.assertEqual([told(bulk), told(first[-1]), told(second[-1][-1])], last_ones(form))

    def test_of_all_coordinates(self):
        # Drawn on so that another coordinate, or the sum of two of them, is the last one.
        for dimension, many in ((2, 10), (3, 3)):
            for form in bounded_forms(dimension, many, 315):
                bulk, first, second = moments(form)
                for one in range(dimension):
                    for other in range(one):
                        self.same(second[one][other], second[other][one])
                        rows = [unit(dimension, place) for place in range(dimension) if place != other]
                        total = tuple(a + b for a, b in zip(unit(dimension, one), unit(dimension, other)))
                        try:
                            swapped = drawn_on(form, tuple(rows) + (unit(dimension, other),))
                            summed = drawn_on(form, tuple(rows) + (total,))
                        except TooGreat:
                            continue
                        self.assertEqual([told(first[other]), told(second[other][other])], last_ones(swapped)[1:])
                        wanted = told(second[one][one]) + 2 * told(second[one][other]) + told(second[other][other])
                        self.assertEqual(wanted, last_ones(summed)[2])

    def test_moved(self):
        random = Random(316)
        for dimension, many in ((1, 12), (2, 8), (3, 3)):
            for form in bounded_forms(dimension, many, 317):
                point = small_points(dimension, 1, random.random())[0]
                steps = [told(number) for number in coordinates_of(point)]
                try:
                    bulk, first, second = moments(shifted(form, point))
                except TooGreat:
                    continue
                own, own_first, own_second = moments(form)
                self.same(bulk, own)
                for one in range(dimension):
                    self.assertEqual(told(first[one]), told(own_first[one]) + steps[one] * told(own))
                    for other in range(dimension):
                        wanted = (told(own_second[one][other]) + steps[one] * told(own_first[other])
                                  + steps[other] * told(own_first[one]) + steps[one] * steps[other] * told(own))
                        self.assertEqual(told(second[one][other]), wanted)


class Centre(SolidCase):

    def test_worked_by_hand(self):
        self.same(centre(form=SQUARE), (1, 1, 2))
        self.same(centre(HOLLOW), (3, 3, 3, 2))
        self.same(centre(TRIANGLE), (1, 2, 1))
        self.same(centre(form_of(1, box(1, -3, 3))), (0, 1))
        self.same(centre(inner(TRIANGLE)), (1, 2, 1))

    def test_by_the_moments(self):
        for dimension, many in ((1, 12), (2, 8), (3, 3)):
            for form in bounded_forms(dimension, many, 318):
                bulk, first, _ = moments(form)
                if told(bulk) != 0:
                    self.assertEqual([told(number) for number in coordinates_of(centre(form))],
                                     [told(number) / told(bulk) for number in first])

    def test_refusals(self):
        for dimension in DIMENSIONS:
            self.refused(Empty, centre, EMPTY[dimension])
            self.refused(Flat, centre, form_of(dimension, lone(*range(dimension))))
        self.refused(Flat, centre, SEGMENT)
        self.refused(Flat, centre, points_of_line(range(5)))


if __name__ == "__main__":
    unittest.main()
