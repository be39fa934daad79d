"""Promise [25]: lines, corners and rays of bodies, bodies told by them, and papers on sums of points."""

import unittest
from fractions import Fraction
from random import Random

from anew import cleared, has_points, opposite, reduced, some_systems, whole
from helping import BIG, NO_INTEGERS, NO_TUPLES, OTHER_BIG, SolidCase, numbers_at, told, worth
from making import small_points
from onesolid.bodies import body_of, faces, is_body, is_bounded_body
from onesolid.corners import body_from, check_corners, corner_paper, corners
from onesolid.errors import NotPaper, NotPoint, NotRow, TooGreat
from onesolid.points import check_direction, check_point
from test_bars import NO_FRACTIONS, ONE, ZERO
from test_bodies import SQUARE, SQUARE_WALLS


def null_space(rows, size):
    """Independent solutions of rows of numbers without a last one."""
    rows = reduced(rows)
    leading = [next(k for k, number in enumerate(row) if number != 0) for row in rows]
    found = []
    for free in range(size):
        if free not in leading:
            steps = [Fraction(0)] * size
            steps[free] = Fraction(1)
            for place, row in zip(leading, rows):
                steps[place] = -row[free]
            found.append(steps)
    return found


def corners_anew(dimension, body):
    """Lines, corners and rays, told anew from the faces."""
    flat, walls, _ = body
    lines = reduced(null_space([row[:-1] for row in flat + walls], dimension))
    places = [next(k for k, number in enumerate(line) if number != 0) for line in lines]
    fixed = [tuple(int(k == place) for k in range(dimension)) + (0,) for place in places]
    points, rays = set(), set()
    for own, numbers in faces(dimension, body):
        rows = list(flat) + [walls[number] for number in numbers] + fixed
        if own == len(lines):
            solved = reduced(rows)
            assert len(solved) == dimension
            point = [-row[-1] for row in solved]
            bottom = whole(point + [1])
            points.add(bottom)
        if own == len(lines) + 1:
            (step,) = null_space([row[:-1] for row in rows], dimension) if rows else [[Fraction(1)]]
            for sign in (1, -1):
                way = tuple(sign * number for number in step)
                if all(sum(a * b for a, b in zip(wall, way)) >= 0 for wall in walls):
                    rays.add(whole(way))
    return tuple(whole(line) for line in lines), tuple(sorted(points)), tuple(sorted(rays))


def spanned(vectors, wanted):
    """Whether a vector is a sum of multiples of vectors by numbers that are not negative."""
    pairs = [("ge", tuple(vector) + (0,)) for vector in vectors]
    return not has_points(pairs + [("gt", opposite(wanted) + (0,))], len(wanted))


class Corners(SolidCase):

    def test_worked_by_hand(self):
        self.same(corners(1, None), None)
        self.same(corners(3, None), None)
        self.same(corners(2, ((), SQUARE_WALLS, ((0,),))),
                  ((), ((0, 0, 1), (0, 1, 1), (1, 0, 1), (1, 1, 1)), ()))
        self.same(corners(2, ((), (), ())), (((1, 0), (0, 1)), ((0, 0, 1),), ()))
        self.same(corners(2, ((), ((1, 0, -3),), ())), (((0, 1),), ((3, 0, 1),), ((1, 0),)))
        self.same(corners(dimension=2, body=((), ((0, 1, 0), (1, 0, -1)), ())), ((), ((1, 0, 1),), ((0, 1), (1, 0))))
        self.same(corners(1, ((), ((-2, 3),), ())), ((), ((3, 2),), ((-1,),)))
        self.same(corners(2, (((2, 0, -1), (0, 3, -1)), (), ())), ((), ((3, 2, 6),), ()))

    def test_lines(self):
        # The strip 0 <= x + y <= 2 goes on along (1, -1); its corners have 0 at the first place.
        self.same(corners(2, body_of(2, (("ge", (1, 1, 0)), ("ge", (-1, -1, 2))))),
                  (((1, -1),), ((0, 0, 1), (0, 2, 1)), ()))
        self.same(corners(2, (((1, 2, -3),), (), ())), (((2, -1),), ((0, 3, 2),), ()))
        # A wedge of space along (1, 1, 1): its rays have 0 at the first place.
        wedge = body_of(3, (("ge", (1, -1, 0, 0)), ("ge", (0, 1, -1, 0))))
        self.same(corners(3, wedge), (((1, 1, 1),), ((0, 0, 0, 1),), ((0, -1, -1), (0, 0, -1))))
        half = body_of(3, (("gt", (0, 2, 4, 6)),))
        self.same(corners(3, half), (((1, 0, 0), (0, 2, -1)), ((0, 0, -3, 2),), ((0, 0, 1),)))
        self.same(corners(1, ((), (), ())), (((1,),), ((0, 1),), ()))

    def test_parallel_rays_stand_once(self):
        strip = body_of(2, (("ge", (1, 0, 0)), ("ge", (0, 1, 0)), ("ge", (0, -1, 1))))
        self.same(corners(2, strip), ((), ((0, 0, 1), (0, 1, 1)), ((1, 0),)))

    def test_told_anew(self):
        kinds = []
        for dimension in (1, 2, 3):
            for system in some_systems(dimension, 120, 210 + dimension):
                body = body_of(dimension, system)
                if body is not None:
                    found = corners(dimension, body)
                    self.same(found, corners_anew(dimension, body))
                    self.assertEqual(is_bounded_body(dimension, body), not found[0] and not found[2])
                    kinds += [kind for kind, things in zip(("lines", "corners", "rays"), found) if things]
                    self.same(body_from(dimension, *found), body[:2] + ((),))
        self.assertGreater(min(kinds.count(kind) for kind in ("lines", "corners", "rays")), 50)


class BodyFrom(SolidCase):

    def test_worked_by_hand(self):
        self.same(body_from(2, (), ((0, 0, 1), (1, 0, 1), (0, 1, 1), (1, 1, 1), (1, 1, 3)), ()), ((), SQUARE_WALLS, ()))
        self.same(body_from(2, (), ((0, 0, 1),), ((1, 0), (1, 1), (0, 1))), ((), ((0, 1, 0), (1, 0, 0)), ()))
        self.same(body_from(2, ((1, -1),), ((0, 0, 1), (2, 0, 1), (1, 0, 1)), ()), ((), ((-1, -1, 2), (1, 1, 0)), ()))
        self.same(body_from(1, (), ((3, 2),), ((-1,),)), ((), ((-2, 3),), ()))
        self.same(body_from(dimension=3, lines=(), points=((1, 2, 3, 4),), rays=()),
                  (((4, 0, 0, -1), (0, 2, 0, -1), (0, 0, 4, -3)), (), ()))

    def test_no_points(self):
        for dimension in (1, 2, 3):
            unit = (1,) + (0,) * (dimension - 1)
            self.same(body_from(dimension, (), (), ()), None)
            self.same(body_from(dimension, (unit,), (), (unit,)), None)

    def test_flat(self):
        self.same(body_from(2, (), ((1, 2, 1),) * 3, ()), (((1, 0, -1), (0, 1, -2)), (), ()))
        self.same(body_from(2, (), ((0, 0, 1), (1, 1, 1), (3, 3, 1), (2, 2, 1)), ()),
                  (((1, -1, 0),), ((0, -1, 3), (0, 1, 0)), ()))
        self.same(body_from(3, (), ((0, 0, 0, 1), (1, 0, 0, 1), (0, 1, 0, 1)), ()),
                  (((0, 0, 1, 0),), ((-1, -1, 0, 1), (0, 1, 0, 0), (1, 0, 0, 0)), ()))
        self.same(body_from(2, ((2, 1),), ((0, 1, 1),), ((2, 1),)), (((1, -2, 2),), (), ()))

    def test_opposite_rays(self):
        self.same(body_from(2, (), ((0, 0, 1),), ((1, 0), (-1, 0))), (((0, 1, 0),), (), ()))
        self.same(body_from(2, (), ((0, 0, 1),), ((1, 0), (-1, 0), (0, 1))), ((), ((0, 1, 0),), ()))
        self.same(body_from(2, (), ((5, 5, 1),), ((1, 0), (-1, 1), (0, -1))), ((), (), ()))
        self.same(body_from(1, ((1,),), ((5, 1),), ()), ((), (), ()))

    def test_some_points(self):
        random = Random(12)
        for dimension in (1, 2, 3):
            for number in range(60):
                points = small_points(dimension, random.choice((1, 2, 4, 8)), 1000 * dimension + number)
                rays = self.some_directions(random, dimension, random.choice((0, 0, 1, 2, 4)))
                lines = self.some_directions(random, dimension, random.choice((0, 0, 0, 1, 2)))
                self.judged(dimension, lines, tuple(points), rays)

    def some_directions(self, random, dimension, many):
        found = []
        while len(found) < many:
            numbers = [random.randint(-2, 2) for _ in range(dimension)]
            if any(numbers):
                found.append(whole(numbers))
        return tuple(found)

    def judged(self, dimension, lines, points, rays):
        """All that is told lies in the body, and its own corners, rays and lines are sums of what is told."""
        body = body_from(dimension, lines, points, rays)
        self.assertTrue(is_body(dimension, body))
        flat, walls, out = body
        self.assertEqual(out, ())
        for row in flat + walls:
            low = 0 if row in walls else None
            for point in points:
                self.assertTrue(worth(row, numbers_at(point)) == 0 or (low == 0 and worth(row, numbers_at(point)) > 0))
            for way in rays:
                rise = sum(a * b for a, b in zip(row, way))
                self.assertTrue(rise == 0 or (low == 0 and rise > 0))
            for way in lines:
                self.assertEqual(sum(a * b for a, b in zip(row, way)), 0)
        own_lines, own_corners, own_rays = corners(dimension, body)
        ways = list(rays) + list(lines) + [opposite(line) for line in lines]
        for line in own_lines:
            self.assertTrue(spanned(ways, line) and spanned(ways, opposite(line)))
        for ray in own_rays:
            self.assertTrue(spanned(ways, ray))
        fixed = [tuple(line) + (0,) for line in reduced(own_lines)]
        shifted = [cleared(point, fixed) for point in points]
        for corner in own_corners:
            self.assertIn(corner, shifted)

    def test_great_numbers(self):
        self.same(body_from(1, (), ((BIG, OTHER_BIG), (0, 1)), ()), ((), ((-OTHER_BIG, BIG), (1, 0)), ()))

    def test_just_so_many_as_may_be(self):
        points = tuple((k, k * k, 1) for k in range(24))
        rays = tuple((1, k) for k in range(24))
        lines = ((1, 0),) * 24
        self.assertEqual(len(body_from(2, (), points, ())[1]), 24)
        self.same(body_from(2, (), points[:1], rays), ((), ((0, 1, 0), (23, -1, 0)), ()))
        self.same(body_from(2, lines, points, ()), ((), ((0, -1, 529), (0, 1, 0)), ()))
        self.refused(TooGreat, body_from, 2, lines + lines[:1], points, rays, most=24)
        self.refused(TooGreat, body_from, 2, lines, points + points[:1], rays, most=24)
        self.refused(TooGreat, body_from, 2, lines, points, rays + rays[:1], most=24)
        self.refused(TooGreat, body_from, 2, lines + lines[:1], (), (), most=24)

    def test_refused(self):
        point, ray = (0, 0, 1), (1, 0)
        for value in NO_TUPLES + ((), (1,), (1, 2, 3)):
            self.refused(NotRow, body_from, 2, (ray, value), (None,), (None,), place=-1)
            self.refused(NotPoint, body_from, 2, (ray,), (point, value, None), (None,), place=-1)
            self.refused(NotRow, body_from, 2, (ray,), (point,), (ray, value), place=-1)
        for value in NO_INTEGERS:
            self.refused(NotRow, body_from, 2, ((1, value),), (None,), (None,), place=1)
            self.refused(NotPoint, body_from, 2, (), ((value, 1, 1),), (None,), place=0)
            self.refused(NotRow, body_from, 2, (), (), ((1, value),), place=1)
        for way in ((0, 0), (2, 4), (-3, 0)):
            self.refused(NotRow, body_from, 2, (ray, way, None), (), (), place=-2)
            self.refused(NotRow, body_from, 2, (), (), (ray, way, None), place=-2)
        self.refused(NotPoint, body_from, 2, (), ((1, 1, 0),), (), place=2)
        self.refused(NotPoint, body_from, 2, (), ((2, 2, 2),), (), place=-2)
        # All of them are judged before they are counted.
        self.refused(NotRow, body_from, 2, (ray,) * 25, (point,) * 25, (ray,) * 30 + ((0, 0),), place=-2)
        self.refused(NotPoint, body_from, 2, (ray,) * 25, (point,) * 30 + ((0, 0, 0),), ((0, 0),), place=2)


class Papers(SolidCase):

    def judged(self, dimension, points, rays, point):
        paper = corner_paper(dimension, points, rays, point)
        self.same(corner_paper(dimension=dimension, points=points, rays=rays, point=point), paper)
        self.same(check_corners(dimension, points, rays, point, paper), paper[0])
        if paper[0] == "in":
            _, weights, numbers = paper
            self.assertEqual((len(weights), len(numbers)), (len(points), len(rays)))
            used = [told(weight) for weight in weights + numbers if weight != (0, 1)]
            self.assertLessEqual(len(used), dimension + 1)
            self.assertTrue(all(weight > 0 for weight in used))
            self.assertEqual(sum(map(told, weights)), 1)
            for k in range(dimension):
                total = sum(told(weight) * numbers_at(own)[k] for weight, own in zip(weights, points))
                total += sum(told(number) * ray[k] for number, ray in zip(numbers, rays))
                self.assertEqual(total, numbers_at(point)[k])
        else:
            word, row = paper
            self.assertEqual((word, len(row)), ("out", dimension + 1))
            self.assertTrue(all(worth(row, numbers_at(own)) >= 0 for own in points))
            self.assertTrue(all(sum(a * b for a, b in zip(row, ray)) >= 0 for ray in rays))
            self.assertLess(worth(row, numbers_at(point)), 0)
        return paper[0]

    def test_worked_by_hand(self):
        square = ((0, 0, 1), (1, 0, 1), (0, 1, 1), (1, 1, 1))
        for point, word in (((0, 0, 1), "in"), ((1, 1, 2), "in"), ((1, 0, 2), "in"), ((1, 1, 1), "in"),
                            ((3, 0, 2), "out"), ((1, -1, 2), "out"), ((-1, -1, 100), "out"), ((101, 0, 100), "out")):
            self.assertEqual(self.judged(2, square, (), point), word)
        self.assertEqual(self.judged(2, square, ((1, 1),), (5, 5, 1)), "in")
        self.assertEqual(self.judged(2, square, ((1, 1),), (5, 4, 1)), "in")
        self.assertEqual(self.judged(2, square, ((1, 1),), (5, 3, 1)), "out")
        self.assertEqual(self.judged(2, square, ((1, 1),), (-1, -1, 1)), "out")
        self.same(corner_paper(1, ((0, 1), (1, 1)), (), (1, 3)), ("in", ((2, 3), (1, 3)), ()))
        self.same(corner_paper(1, ((1, 2),), ((1,),), (5, 3)), ("in", (ONE,), ((7, 6),)))

    def test_no_points(self):
        self.assertEqual(self.judged(2, (), (), (1, 2, 3)), "out")
        self.assertEqual(self.judged(2, (), ((1, 0), (-1, 0), (0, 1), (0, -1)), (0, 0, 1)), "out")

    def test_one_point_and_equal_ones(self):
        for many in (1, 5):
            self.assertEqual(self.judged(3, ((1, 2, 3, 4),) * many, (), (1, 2, 3, 4)), "in")
            self.assertEqual(self.judged(3, ((1, 2, 3, 4),) * many, (), (1, 2, 3, 5)), "out")
            self.assertEqual(self.judged(1, ((1, 2),) * many, ((1,), (-1,)), (-9, 1)), "in")

    def test_on_one_line(self):
        points = tuple((k, 2 * k, 1) for k in range(-3, 4))
        for point, word in (((1, 2, 2), "in"), ((3, 6, 1), "in"), ((4, 8, 1), "out"), ((1, 1, 1), "out")):
            self.assertEqual(self.judged(2, points, (), point), word)

    def test_some_points(self):
        random = Random(13)
        words = []
        for dimension in (1, 2, 3):
            for number in range(80):
                points = tuple(small_points(dimension, random.choice((0, 2, 4, 8)), 2000 * dimension + number))
                rays = BodyFrom.some_directions(self, random, dimension, random.choice((0, 0, 1, 2, 4)))
                (point,) = small_points(dimension, 1, 3000 * dimension + number)
                word = self.judged(dimension, points, rays, point)
                vectors = list(points) + [ray + (0,) for ray in rays]
                self.assertEqual(word == "in", spanned(vectors, point))
                words.append(word)
        self.assertGreater(min(words.count("in"), words.count("out")), 60)

    def test_great_numbers(self):
        self.assertEqual(self.judged(1, ((BIG, 1), (BIG + 2, 1)), (), (BIG + 1, 1)), "in")
        self.assertEqual(self.judged(2, ((BIG, 1, OTHER_BIG),), ((1, BIG),), (BIG, 1, OTHER_BIG + 1)), "out")

    def test_in_bent(self):
        points, rays, point = ((0, 0, 1), (2, 0, 1), (0, 2, 1), (2, 2, 3)), ((1, 0), (0, 1)), (1, 1, 1)
        right = ("in", (ZERO, (1, 2), (1, 2), ZERO), (ZERO, ZERO))
        self.same(check_corners(2, points, rays, point, right), "in")
        self.same(check_corners(dimension=2, points=points, rays=rays, point=point, paper=right), "in")
        self.same(check_corners(2, points, rays, point, ("in", (ONE, ZERO, ZERO, ZERO), (ONE, ONE))), "in")
        self.same(check_corners(2, points, rays, point, ("in", (ZERO, ZERO, ZERO, ONE), ((1, 3), (1, 3)))), "in")
        for paper in (
                ("in", (ZERO, (1, 2), (1, 3), ZERO), (ZERO, ZERO)), ("in", (ZERO, (1, 2), (1, 2), ZERO), (ONE, ZERO)),
                ("in", (ZERO, ZERO, ZERO, ZERO), (ONE, ONE)), ("in", (ONE, (1, 2), (1, 2), ZERO), (ZERO, ZERO)),
                ("in", ((-1, 1), ONE, ONE, ZERO), ((-1, 1), (-1, 1))), ("in", (ZERO, ONE, ZERO, ZERO), ((-1, 1), ONE)),
                ("in", ((2, 1), (-1, 2), (-1, 2), ZERO), ((2, 1), (2, 1))),
                ("in", (ZERO, (1, 2), (1, 2), ONE), (ZERO, ZERO)),
                # As many as four of all are not 0.
                ("in", ((1, 3), (1, 3), (1, 3), ZERO), ((1, 3), (1, 3))),
                ("in", ((1, 2), (1, 4), (1, 4), ZERO), ((1, 2), (1, 2)))):
            self.refused(NotPaper, check_corners, 2, points, rays, point, paper, word="in")
        self.refused(NotPaper, check_corners, 2, points, rays, (1, 1, 2), right, word="in")

    def test_as_many_weights_as_may_be(self):
        points = ((0, 0, 1), (3, 0, 1), (0, 3, 1))
        third = (1, 3)
        self.same(check_corners(2, points, ((1, 1),), (1, 1, 1), ("in", (third,) * 3, (ZERO,))), "in")
        self.refused(NotPaper, check_corners, 2, points, ((1, 1),), (2, 2, 1), ("in", (third,) * 3, (ONE,)), word="in")

    def test_out_bent(self):
        points, rays, point = ((0, 0, 1), (2, 0, 1)), ((0, 1), (1, 1)), (-1, 3, 1)
        for row in ((1, 0, 0), (2, 0, 1), (5, 0, 4), (5, 1, 0)):
            self.same(check_corners(2, points, rays, point, ("out", row)), "out")
        for row in ((1, 0, 1), (1, 0, -1), (-1, 0, 0), (0, -1, 0), (0, 0, 0), (0, 0, -1), (0, 0, 5), (1, -1, 0),
                    (2, -3, 9), (0, 1, 0), (3, 1, 0), (-1, 1, 0), (-1, 0, 2)):
            self.refused(NotPaper, check_corners, 2, points, rays, point, ("out", row), word="out")
        # On the rim it is not out.
        self.refused(NotPaper, check_corners, 2, points, rays, (0, 3, 1), ("out", (1, 0, 0)), word="out")
        self.same(check_corners(2, (), rays, (0, 3, 1), ("out", (0, 0, -1))), "out")

    def test_the_form_of_papers(self):
        points, rays, point = ((0, 0, 1), (2, 0, 1)), ((0, 1),), (1, 1, 1)
        halves = ((1, 2), (1, 2))
        self.same(check_corners(2, points, rays, point, ("in", halves, (ONE,))), "in")
        for paper in NO_TUPLES + (
            (), ("in",), ("out",), ("in", halves), ("in", halves, (ONE,), ()), ["in", halves, (ONE,)],
            ("In", halves, (ONE,)), (None, halves, (ONE,)), ([], (1, 0, 0)), ("in", (1, 0, 0)),
            ("in", (ONE,), halves), ("in", halves, ()), ("in", halves, (ONE, ZERO)), ("in", halves[:1], (ONE,)),
            ("in", list(halves), (ONE,)), ("in", halves, [ONE]), ("in", halves, ONE), ("in", None, None),
            ("out", None), ("out", (1, 0)), ("out", (1, 0, 0, 0)), ("out", [1, 0, 0]), ("out", (1, 0, True)),
            ("out", (1, 0, (0, 1))), ("out", (1, 0, 0), ()), ("out", halves, (ONE,))):
            with self.subTest(repr(paper)):
                self.refused(NotPaper, check_corners, 2, points, rays, point, paper, word="form")
        for value in NO_FRACTIONS:
            for paper in (("in", (ONE, value), (ONE,)), ("in", halves, (value,))):
                self.refused(NotPaper, check_corners, 2, points, rays, point, paper, word="form")

    def test_refused(self):
        good, ray = (0, 0, 1), (1, 0)
        for call, more in ((corner_paper, ()), (check_corners, (None,))):
            for value in NO_TUPLES + ((), (1,), (1, 2)):
                self.refused(NotPoint, call, 2, (good, value), (None,), None, *more, place=-1)
                if value != (1, 2):
                    self.refused(NotRow, call, 2, (good,), (ray, value), None, *more, place=-1)
                self.refused(NotPoint, call, 2, (good,), (ray,), value, *more, place=-1)
            self.refused(NotPoint, call, 2, ((0, 0, 0),), ((0, 0),), (0, 0, 0), *more, place=2)
            self.refused(NotRow, call, 2, (good,), ((0, 0),), (0, 0, 0), *more, place=-2)
            self.refused(NotRow, call, 2, (good,), (ray, (1, False)), (0, 0, 0), *more, place=1)
            self.refused(NotPoint, call, 2, (good,), (ray,), (2, 2, 2), *more, place=-2)
            self.refused(NotPoint, call, 2, (good,) * 25, (ray,) * 25, (0, True, 1), *more, place=1)
            self.refused(TooGreat, call, 2, (good,) * 25, (ray,) * 24, good, *more, most=24)
            self.refused(TooGreat, call, 2, (good,) * 24, (ray,) * 25, good, *more, most=24)
        self.same(self.judged(2, (good,) * 24, (ray,) * 24, (5, 0, 1)), "in")
        self.same(self.judged(2, (good,) * 24, (ray,) * 24, (5, 1, 1)), "out")

    def test_square_is_its_own_hull(self):
        square = corners(2, body_of(2, SQUARE))[1]
        for point in small_points(2, 60, 14):
            check_point(2, point)
            inside = all(0 <= number <= 1 for number in numbers_at(point))
            self.assertEqual(self.judged(2, square, (), point), "in" if inside else "out")

    def test_corners_are_points_and_rays_directions(self):
        for system in some_systems(3, 30, 220):
            found = corners(3, body_of(3, system))
            if found is not None:
                for way in found[0] + found[2]:
                    check_direction(3, way)
                for point in found[1]:
                    check_point(3, point)


if __name__ == "__main__":
    unittest.main()
