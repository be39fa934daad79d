"""Promise [43]: sums of sets, sets shrunk, opened and closed by others."""

import unittest
from random import Random

from anew import has_points
from formed import ALL, EMPTY, MOST, box, lone, pairs_of, points_of_line, some_forms, told_forms, unit
from helping import SolidCase, numbers_at
from making import small_points
from onesolid.cells import cells_of, point_in
from onesolid.deeds import either, is_within, rest
from onesolid.errors import TooGreat, Unlike
from onesolid.flats import flat_sum, on_flat
from onesolid.forms import form_from, form_of, has_point, need_form
from onesolid.images import shifted, turned_about
from onesolid.needed import cut_out, flats_of, is_cut_out
from onesolid.sums import closed_by, opened, shrunk, sum_of

DIMENSIONS = (1, 2, 3)
TWOS = (sum_of, shrunk, opened, closed_by)


def stretch(low, high, words=("ge", "le")):
    return form_of(1, box(1, low, high, words))


def planes_at(dimension, numbers):
    """A form of planes that stand side by side."""
    return form_of(dimension, ("or",) + tuple(("is", "eq", unit(dimension, 0, -number)) for number in numbers))


def points_at(dimension, numbers):
    """A form of points on the first axis."""
    axis = tuple(("is", "eq", unit(dimension, place)) for place in range(1, dimension))
    points = ("or",) + tuple(("is", "eq", unit(dimension, 0, -number)) for number in numbers)
    return form_of(dimension, ("and", points) + axis)


def moved_pairs(pairs, coordinates, turn):
    """The pairs that hold at the points that are turned, 1 or -1, and to which these coordinates are then added."""
    found = []
    for word, row in pairs:
        last = row[-1] + sum(number * part for number, part in zip(row, coordinates))
        found.append((word, tuple(turn * number for number in row[:-1]) + (last,)))
    return found


class Sums(SolidCase):

    def test_stretches(self):
        self.same(sum_of(stretch(0, 1), stretch(2, 5)), stretch(2, 6))
        self.same(sum_of(form=stretch(0, 1, ("gt", "le")), other=stretch(2, 5)), stretch(2, 6, ("gt", "le")))
        self.same(sum_of(stretch(0, 1, ("gt", "le")), stretch(2, 5, ("ge", "lt"))), stretch(2, 6, ("gt", "lt")))
        self.same(sum_of(stretch(0, 1), form_of(1, lone(-3))), stretch(-3, -2))
        # Stretches that touch: both ends closed, one of them open, both.
        for words, wanted in ((("ge", "le"), stretch(0, 2)), (("ge", "lt"), stretch(0, 2, ("ge", "lt")))):
            self.same(sum_of(stretch(0, 1, words), points_of_line((0, 1))), wanted)
        self.same(sum_of(stretch(0, 1, ("gt", "lt")), points_of_line((0, 1))),
                  form_of(1, ("and", box(1, 0, 2, ("gt", "lt")), ("is", "ne", (1, -1)))))
        self.same(sum_of(form_of(1, ("is", "ge", (1, -1))), form_of(1, ("is", "gt", (1, -2)))),
                  form_of(1, ("is", "gt", (1, -3))))
        self.same(sum_of(form_of(1, ("is", "ge", (1, -1))), form_of(1, ("is", "le", (1, -2)))), ALL[1])

    def test_plane_and_space(self):
        square = form_of(2, box(2))
        self.same(sum_of(square, square), form_of(2, box(2, 0, 2)))
        triangle = form_of(2, ("and", ("is", "ge", (1, 0, 0)), ("is", "ge", (0, 1, 0)), ("is", "lt", (1, 1, -1))))
        self.same(sum_of(square, triangle), form_of(2, ("and", ("is", "ge", (1, 0, 0)), ("is", "ge", (0, 1, 0)),
                                                        ("is", "lt", (1, 0, -2)), ("is", "lt", (0, 1, -2)),
                                                        ("is", "lt", (1, 1, -3)))))
        cube = form_of(3, box(3))
        self.same(sum_of(cube, cube), form_of(3, box(3, 0, 2)))
        # A line and a stretch across it; two lines; lone points.
        line = form_of(2, ("is", "eq", (1, -1, 0)))
        across = form_of(2, ("and", ("is", "eq", (1, 1, 0)), ("is", "ge", (1, 0, 0)), ("is", "lt", (1, 0, -1))))
        self.same(sum_of(line, across), form_of(2, ("and", ("is", "ge", (1, -1, 0)), ("is", "lt", (1, -1, -2)))))
        self.same(sum_of(line, form_of(2, ("is", "eq", (1, 1, 0)))), ALL[2])
        self.same(sum_of(line, line), line)
        self.same(sum_of(form_of(2, lone(1, 2)), form_of(2, lone(3, 5))), form_of(2, lone(4, 7)))

    def test_empty_and_whole(self):
        for dimension in DIMENSIONS:
            for form in [EMPTY[dimension], ALL[dimension]] + list(some_forms(dimension, 6, 4, 170)):
                self.same(sum_of(EMPTY[dimension], form), EMPTY[dimension])
                self.same(sum_of(form, EMPTY[dimension]), EMPTY[dimension])
                if form != EMPTY[dimension]:
                    self.same(sum_of(ALL[dimension], form), ALL[dimension])
                    self.same(sum_of(form, ALL[dimension]), ALL[dimension])

    def test_told_anew(self):
        random = Random(171)
        for dimension, many in ((1, 40), (2, 30), (3, 12)):
            forms = list(some_forms(dimension, 25, 3, 172)) + list(told_forms(dimension, 15, 173, 3))
            for _ in range(many):
                one, other = random.choice(forms), random.choice(forms)
                try:
                    found = sum_of(one, other)
                except TooGreat:
                    continue
                self.assertIs(need_form(found), found)
                self.same(sum_of(other, one), found)
                cells = cells_of(dimension, found[1])
                points = [point_in(dimension, found[1], signs) for signs in random.sample(cells, min(6, len(cells)))]
                for point in points + small_points(dimension, 3, random.random()):
                    numbers = numbers_at(point)
                    wanted = any(has_points(pairs + moved_pairs(others, numbers, -1), dimension)
                                 for pairs in pairs_of(one) for others in pairs_of(other))
                    self.assertIs(has_point(found, point), wanted)

    def test_planes_that_cut_out_the_sums(self):
        random = Random(174)
        for dimension in DIMENSIONS:
            forms = list(some_forms(dimension, 20, 2, 175))
            for _ in range(15):
                one, other = random.choice(forms), random.choice(forms)
                sums = tuple(flat_sum(dimension, flat, own) for flat in flats_of(one) for own in flats_of(other))
                planes = cut_out(dimension, sums)
                if len(planes) > MOST[dimension]:
                    self.refused(TooGreat, sum_of, one, other, most=MOST[dimension])
                    continue
                found = sum_of(one, other)
                inside = [signs for signs in cells_of(dimension, planes)
                          if has_point(found, point_in(dimension, planes, signs))]
                self.same(form_from(dimension, planes, tuple(inside)), found)
                for flat in flats_of(found):
                    self.assertTrue(is_cut_out(dimension, planes, flat))

    def test_just_as_many_planes_as_may_be(self):
        for dimension, most in MOST.items():
            half = most // 2
            one, other = planes_at(dimension, range(half)), points_at(dimension, (0, half))
            if dimension == 1:
                self.same(sum_of(one, other), planes_at(dimension, range(most)))
            self.assertEqual(sum_of(one, other), planes_at(dimension, range(most)))
            more = planes_at(dimension, range(half + 1))
            for call in (sum_of, closed_by):
                self.refused(TooGreat, call, more, points_at(dimension, (0, half)), most=most)
                self.refused(TooGreat, call, points_at(dimension, (0, half)), more, most=most)
        # Of planes that are not needed as many as may be, and one more.
        half_plane = form_of(2, ("is", "ge", (1, 0, 0)))
        self.same(sum_of(planes_at(2, range(24)), half_plane), half_plane)
        ended = form_of(2, ("and", ("is", "ge", (1, 0, 0)), ("is", "ne", (1, 0, -24))))
        self.refused(TooGreat, sum_of, planes_at(2, range(24)), ended, most=24)

    def test_unlike_dimensions(self):
        for call in TWOS:
            self.refused(Unlike, call, EMPTY[1], EMPTY[2])
            self.refused(Unlike, call, ALL[3], points_of_line(range(60)))
            self.refused(Unlike, call, planes_at(2, range(24)), points_of_line(range(60)))

    def test_many_sets(self):
        random = Random(176)
        for dimension in (1, 2):
            forms = list(told_forms(dimension, 25, 177, 2))
            for _ in range(15):
                one, two, three = (random.choice(forms) for _ in range(3))
                try:
                    self.same(sum_of(sum_of(one, two), three), sum_of(one, sum_of(two, three)))
                    self.same(sum_of(either(one, two), three), either(sum_of(one, three), sum_of(two, three)))
                except TooGreat:
                    pass


class Shrunk(SolidCase):

    def test_worked_by_hand(self):
        self.same(shrunk(stretch(0, 5), stretch(0, 2)), stretch(0, 3))
        self.same(shrunk(form=stretch(0, 5), other=stretch(1, 2, ("ge", "lt"))), stretch(-1, 3))
        self.same(shrunk(stretch(0, 5, ("gt", "lt")), stretch(1, 2)), stretch(-1, 3, ("gt", "lt")))
        self.same(shrunk(stretch(0, 5, ("gt", "lt")), stretch(1, 2, ("gt", "lt"))), stretch(-1, 3))
        # By a greater set, by one of the same size.
        self.same(shrunk(stretch(0, 5), stretch(0, 6)), EMPTY[1])
        self.same(shrunk(stretch(0, 5), stretch(2, 7)), form_of(1, lone(-2)))
        self.same(shrunk(stretch(0, 5, ("ge", "lt")), stretch(0, 5)), EMPTY[1])
        self.same(shrunk(form_of(2, box(2, 0, 5)), form_of(2, box(2, 1, 2))), form_of(2, box(2, -1, 3)))
        self.same(shrunk(form_of(3, box(3, 0, 5)), form_of(3, lone(1, 1, 1))), form_of(3, box(3, -1, 4)))

    def test_empty_and_whole(self):
        for dimension in DIMENSIONS:
            for form in [EMPTY[dimension], ALL[dimension]] + list(some_forms(dimension, 6, 4, 178)):
                self.same(shrunk(form, EMPTY[dimension]), ALL[dimension])
                self.same(shrunk(ALL[dimension], form), ALL[dimension])
                self.same(shrunk(form, ALL[dimension]), form if form in (EMPTY[dimension], ALL[dimension])
                          else EMPTY[dimension])
                if form != EMPTY[dimension]:
                    self.same(shrunk(EMPTY[dimension], form), EMPTY[dimension])

    def test_told_anew(self):
        random = Random(179)
        for dimension, many in ((1, 40), (2, 30), (3, 10)):
            forms = list(some_forms(dimension, 25, 3, 180)) + list(told_forms(dimension, 15, 181, 3))
            for _ in range(many):
                one, other = random.choice(forms), random.choice(forms)
                try:
                    found = shrunk(one, other)
                except TooGreat:
                    continue
                self.assertIs(need_form(found), found)
                for point in small_points(dimension, 8, random.random()):
                    numbers = numbers_at(point)
                    led_out = any(has_points(others + moved_pairs(pairs, numbers, 1), dimension)
                                  for pairs in pairs_of(rest(one)) for others in pairs_of(other))
                    self.assertIs(has_point(found, point), not led_out)

    def test_sums_within(self):
        random = Random(182)
        for dimension in DIMENSIONS:
            forms = list(told_forms(dimension, 30, 183, 2)) + list(some_forms(dimension, 10, 2, 184))
            both_ways = {True: 0, False: 0}
            for _ in range(60):
                one, two, three = (random.choice(forms) for _ in range(3))
                try:
                    wanted = is_within(one, shrunk(three, two))
                    self.assertIs(is_within(sum_of(one, two), three), wanted)
                except TooGreat:
                    continue
                both_ways[wanted] += 1
            self.assertTrue(min(both_ways.values()) > 3)

    def test_just_as_many_planes_as_may_be(self):
        for dimension, most in MOST.items():
            half = most // 2
            slits = rest(planes_at(dimension, range(half)))
            self.assertEqual(shrunk(slits, points_at(dimension, (0, half))),
                             rest(planes_at(dimension, range(-half, half))))
            more = rest(planes_at(dimension, range(half + 1)))
            for call in (shrunk, opened):
                self.refused(TooGreat, call, more, points_at(dimension, (0, half)), most=most)

    def test_the_other_set_turned_about_is_no_form_on_the_way(self):
        # Lines that 16 planes cut out, while it takes 17 if they are turned about.
        lines = (((1, 1, 0, -1), (0, 0, 1, 0)), ((1, 0, 0, -1), (0, 0, 1, -1)), ((1, 0, 1, 0), (0, 1, -1, 0)),
                 ((1, 0, 0, 0), (0, 0, 1, -1)), ((1, 0, 2, 0), (0, 1, 0, 0)), ((1, 0, -1, 1), (0, 2, 2, -1)),
                 ((4, 0, -3, 0), (0, 4, 5, 0)), ((1, 0, 2, 1), (0, 1, -1, -1)), ((4, 0, 2, 1), (0, 4, -2, -3)))
        planes = cut_out(3, lines)
        inside = [signs for signs in cells_of(3, planes)
                  if any(on_flat(line, point_in(3, planes, signs)) for line in lines)]
        form = form_from(3, planes, tuple(inside))
        self.assertEqual(len(form[1]), 16)
        self.refused(TooGreat, turned_about, form, most=16)
        half = form_of(3, ("is", "gt", (0, 0, 1, 0)))
        self.same(shrunk(half, form), EMPTY[3])
        self.same(shrunk(ALL[3], form), ALL[3])
        self.same(opened(half, form), EMPTY[3])


class OpenedAndClosed(SolidCase):

    def test_worked_by_hand(self):
        two = form_of(1, ("or", box(1, 0, 1), box(1, 3, 7)))
        self.same(opened(form=two, other=stretch(0, 2)), stretch(3, 7))
        self.same(closed_by(form=two, other=stretch(0, 2)), stretch(0, 7))
        self.same(closed_by(two, stretch(0, 1)), two)
        self.same(opened(two, stretch(0, 1)), two)
        # An open gap of just the length is filled, but not a closed one.
        self.same(closed_by(form_of(1, ("or", box(1, 0, 1), box(1, 2, 3))), stretch(0, 1)), stretch(0, 3))
        gap = form_of(1, ("or", box(1, 0, 1, ("ge", "lt")), box(1, 2, 3, ("gt", "le"))))
        self.same(closed_by(gap, stretch(0, 1)), gap)
        # What is too narrow is lost.
        form = form_of(2, ("or", box(2, 0, 2), ("and", ("is", "eq", (0, 1, -1)), ("is", "ge", (1, 0, 0)),
                                                ("is", "le", (1, 0, -9)))))
        self.same(opened(form, form_of(2, box(2))), form_of(2, box(2, 0, 2)))
        for dimension in DIMENSIONS:
            self.same(opened(ALL[dimension], EMPTY[dimension]), EMPTY[dimension])
            self.same(closed_by(EMPTY[dimension], EMPTY[dimension]), ALL[dimension])

    def test_facts(self):
        random = Random(185)
        for dimension in DIMENSIONS:
            forms = list(told_forms(dimension, 30, 186, 2)) + list(some_forms(dimension, 10, 2, 187))
            for _ in range(30):
                one, other = random.choice(forms), random.choice(forms)
                try:
                    found = opened(one, other)
                    self.same(found, sum_of(shrunk(one, other), other))
                    self.assertIs(is_within(found, one), True)
                    self.same(opened(found, other), found)
                except TooGreat:
                    pass
                try:
                    found = closed_by(one, other)
                    self.same(found, shrunk(sum_of(one, other), other))
                    self.assertIs(is_within(one, found), True)
                    self.same(closed_by(found, other), found)
                except TooGreat:
                    pass

    def test_moving_does_not_matter(self):
        form, other = form_of(2, ("or", box(2, 0, 3), box(2, 4, 5))), form_of(2, box(2, 0, 2))
        far = shifted(other, (7, 9, 5))
        self.same(opened(form, far), opened(form, other))
        self.same(closed_by(form, far), closed_by(form, other))


if __name__ == "__main__":
    unittest.main()
