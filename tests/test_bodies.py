"""Promises [23] and [24]: the body of the set of a system, its faces, and systems compared."""

import unittest
from itertools import combinations
from random import Random

from anew import body_anew, dimension_of, has_points, lies_within, loose, opposite, some_box, some_system, some_systems
from helping import BIG, NO_INTEGERS, NO_TUPLES, OTHER_BIG, SolidCase
from onesolid.bodies import (body_of, faces, inner_point, is_body, is_bounded_body, needless, parting_of, same_set,
                             set_within, system_of)
from onesolid.corners import corners
from onesolid.errors import Empty, NotForm
from onesolid.points import check_point
from onesolid.rows import sign_at
from onesolid.systems import holds_all

SQUARE = (("ge", (1, 0, 0)), ("ge", (-1, 0, 1)), ("ge", (0, 1, 0)), ("ge", (0, -1, 1)))
SQUARE_WALLS = ((-1, 0, 1), (0, -1, 1), (0, 1, 0), (1, 0, 0))
OF_BODIES = (system_of, faces, is_bounded_body, inner_point, corners)
# Values that are no bodies in dimension 2, most of them near one.
NO_BODIES = NO_TUPLES[1:] + (
    (), ((), ()), ((), (), (), ()), [(), (), ()], ([], (), ()), ((), [], ()), ((), (), []), (None, (), ()),
    ((), None, ()), ((), (), None), ((), ((1, 0, 0),)), ((), ((1, 0, 0), (0, 1, 0)), ()), ((), ((2, 0, 0),), ()),
    ((), ((2, 0, 4),), ()), ((), ((1, 0, 0), (1, 0, 0)), ()), ((), ((1, 0),), ()), ((), ((1, 0, 0, 0),), ()),
    ((), ([1, 0, 0],), ()), ((), ((True, 0, 0),), ()), ((), ((1, 0, False),), ()), ((), ((0, 0, 1),), ()),
    ((), ((0, 0, 0),), ()), ((), ((0, 0, -1),), ()), ((), ((1, 0, 0), (1, 0, 1)), ()),
    ((), ((-1, 0, 0), (1, 0, 0)), ()), ((), ((-1, 0, 0), (1, 0, -1)), ()),
    ((), ((0, 1, 0), (1, 0, 0), (1, 1, 0)), ()), ((), ((0, 1, 0), (1, 0, 0), (1, 1, 1)), ()), (((2, 0, 0),), (), ()),
    (((-1, 0, 0),), (), ()), (((1, 0, 0), (1, 0, 1)), (), ()), (((0, 1, 0), (1, 0, 0)), (), ()), (((1, 0),), (), ()),
    (((1, 0, True),), (), ()), (((1, 0, 0),), ((1, 1, 0),), ()), (((1, 0, 0),), ((0, 2, 0),), ()),
    (((1, 0, 0), (0, 1, 0)), ((0, 0, 1),), ()), ((), ((1, 0, 0),), ((),)), ((), ((1, 0, 0),), ((1,),)),
    ((), ((1, 0, 0),), ((-1,),)), ((), ((1, 0, 0),), ((0, 0),)), ((), ((1, 0, 0),), ((0,), (0,))),
    ((), ((1, 0, 0),), ((False,),)), ((), ((1, 0, 0),), (0,)), ((), ((1, 0, 0),), ([0],)),
    ((), ((1, 0, 0),), ((0.0,),)), ((), ((0, 1, 0), (1, 0, 0)), ((0,), (0, 1))),
    ((), ((0, 1, 0), (1, 0, 0)), ((1,), (0,))), ((), ((0, 1, 0), (1, 0, 0)), ((1, 0),)),
    ((), SQUARE_WALLS, ((0, 3),)), ((), SQUARE_WALLS, ((0, 1, 2),)), ((), SQUARE_WALLS[::-1], ()),
    ((), SQUARE_WALLS[:1] + SQUARE_WALLS, ()), ((), SQUARE_WALLS + ((1, 1, 0),), ()))


class BodyOf(SolidCase):

    def test_worked_by_hand(self):
        self.same(body_of(1, ()), ((), (), ()))
        self.same(body_of(1, (("ge", (2, 3)),)), ((), ((2, 3),), ()))
        self.same(body_of(1, (("gt", (-4, 6)),)), ((), ((-2, 3),), ((0,),)))
        self.same(body_of(1, (("gt", (1, 0)), ("ge", (-1, 1)))), ((), ((-1, 1), (1, 0)), ((1,),)))
        self.same(body_of(1, (("eq", (2, -3)),)), (((2, -3),), (), ()))
        self.same(body_of(1, (("ge", (2, -3)), ("ge", (-2, 3)))), (((2, -3),), (), ()))
        self.same(body_of(2, SQUARE), ((), SQUARE_WALLS, ()))
        self.same(body_of(dimension=3, system=(("gt", (0, 0, -1, 5)),)), ((), ((0, 0, -1, 5),), ((0,),)))

    def test_empty(self):
        for system in ((("gt", (1, 0)), ("ge", (-1, 0))), (("ge", (0, -1)),), (("gt", (0, 0)),), (("eq", (0, 3)),),
                       (("ge", (1, -2)), ("ge", (-1, 1)))):
            self.same(body_of(1, system), None)

    def test_flat(self):
        # A stretch of the line x = y, open at one end; told by walls that depend on y alone.
        system = (("eq", (2, -2, 0)), ("ge", (1, 0, 0)), ("gt", (-1, -1, 4)))
        self.same(body_of(2, system), (((1, -1, 0),), ((0, -1, 2), (0, 1, 0)), ((0,),)))
        self.same(body_of(2, (("ge", (1, -1, 0)), ("ge", (-1, 1, 0)))), (((1, -1, 0),), (), ()))
        # Three half planes that meet in one point alone.
        point = (("ge", (1, 0, 0)), ("ge", (0, 1, 0)), ("ge", (-1, -1, 0)))
        self.same(body_of(2, point), (((1, 0, 0), (0, 1, 0)), (), ()))
        self.same(body_of(2, point[:2] + (("gt", (-1, -1, 0)),)), None)
        disc = (("eq", (0, 0, 2, -3)),) + tuple((word, row[:2] + (0,) + row[2:]) for word, row in SQUARE)
        self.same(body_of(3, disc), (((0, 0, 2, -3),), tuple(row[:2] + (0,) + row[2:] for row in SQUARE_WALLS), ()))

    def test_needless_pairs_do_not_show(self):
        self.same(body_of(2, SQUARE + SQUARE + (("ge", (1, 1, 0)), ("gt", (1, 1, 1)), ("gt", (0, 0, 1)))),
                  ((), SQUARE_WALLS, ()))
        self.same(body_of(2, tuple((word, tuple(3 * number for number in row)) for word, row in SQUARE[::-1])),
                  ((), SQUARE_WALLS, ()))

    def test_corners_and_edges_left_out(self):
        self.same(body_of(2, SQUARE + (("gt", (1, 1, 0)),)), ((), SQUARE_WALLS, ((2, 3),)))
        self.same(body_of(2, SQUARE + (("gt", (2, 3, 0)), ("gt", (-1, 1, 1)))), ((), SQUARE_WALLS, ((0, 2), (2, 3))))
        self.same(body_of(2, SQUARE + (("gt", (1, 1, 0)), ("gt", (5, 0, 0)))), ((), SQUARE_WALLS, ((3,),)))
        self.same(body_of(2, SQUARE + (("gt", (1, 1, 0)), ("gt", (-1, 0, 1)))), ((), SQUARE_WALLS, ((0,), (2, 3))))
        cube = tuple(("ge", (0,) * k + (sign,) + (0,) * (2 - k) + (1,)) for k in range(3) for sign in (1, -1))
        walls = tuple(sorted(row for _, row in cube))
        x_low, y_low, z_low = walls.index((1, 0, 0, 1)), walls.index((0, 1, 0, 1)), walls.index((0, 0, 1, 1))
        edge = tuple(sorted((x_low, y_low)))
        self.same(body_of(3, cube + (("gt", (1, 1, 0, 2)),)), ((), walls, (edge,)))
        self.same(body_of(3, cube + (("gt", (1, 1, 1, 3)),)), ((), walls, (tuple(sorted(edge + (z_low,))),)))
        self.same(body_of(3, cube + (("gt", (1, 1, 1, 3)), ("gt", (1, 1, 0, 2)))), ((), walls, (edge,)))

    def test_endless(self):
        wedge = (("ge", (1, 0, 0)), ("ge", (0, 1, 0)))
        self.same(body_of(2, wedge + (("gt", (1, 1, 0)),)), ((), ((0, 1, 0), (1, 0, 0)), ((0, 1),)))
        # A side is left out only where there are points of it.
        self.same(body_of(2, (("ge", (1, 0, -1)), ("ge", (0, 1, 0)), ("gt", (1, 0, 0)), ("gt", (0, 1, 1)))),
                  ((), ((0, 1, 0), (1, 0, -1)), ()))
        strip = (("gt", (1, 1, 0)), ("ge", (-1, -1, 1)))
        self.same(body_of(2, strip), ((), ((-1, -1, 1), (1, 1, 0)), ((1,),)))

    def test_great_numbers(self):
        self.same(body_of(1, (("gt", (BIG, -1)), ("ge", (-BIG, OTHER_BIG)))),
                  ((), ((-BIG, OTHER_BIG), (BIG, -1)), ((1,),)))

    def test_told_anew(self):
        kinds = []
        for dimension in (1, 2, 3):
            for system in some_systems(dimension, 120, 110 + dimension):
                body = body_of(dimension, system)
                self.same(body, body_anew(dimension, system))
                kinds.append("empty" if body is None else "out" if body[2] else "flat" if body[0] else "full")
        self.assertGreater(min(kinds.count(kind) for kind in ("empty", "out", "flat", "full")), 10)

    def test_the_same_set_told_by_other_pairs(self):
        random = Random(6)
        for dimension in (1, 2, 3):
            for system in some_systems(dimension, 40, 120 + dimension):
                body = body_of(dimension, system)
                pairs = list(system)
                for word, row in random.sample(pairs, min(len(pairs), 2)):
                    factor = random.randint(1, 3)
                    pairs.append((word, tuple(factor * number for number in row)))
                    if word != "eq":
                        pairs.append(("ge", row[:-1] + (row[-1] + random.randint(0, 2),)))
                random.shuffle(pairs)
                self.same(body_of(dimension, tuple(pairs)), body)


class IsBody(SolidCase):

    def test_bodies(self):
        self.same(is_body(1, None), True)
        for body in (((), (), ()), ((), SQUARE_WALLS, ()), ((), SQUARE_WALLS, ((0, 1), (2, 3))),
                     ((), SQUARE_WALLS, ((0,), (1,), (2,), (3,))), (((1, 0, 0), (0, 1, 0)), (), ()),
                     (((1, -1, 0),), ((0, -1, 2), (0, 1, 0)), ((0,),)), ((), SQUARE_WALLS, ((0,), (1, 3)))):
            self.same(is_body(dimension=2, value=body), True)
        for dimension in (1, 2, 3):
            for system in some_systems(dimension, 60, 130 + dimension):
                self.same(is_body(dimension, body_of(dimension, system)), True)

    def test_no_bodies(self):
        for value in NO_BODIES:
            with self.subTest(repr(value)):
                self.same(is_body(2, value), False)
        self.same(is_body(1, ((), SQUARE_WALLS, ())), False)
        self.same(is_body(3, ((), SQUARE_WALLS, ())), False)

    def test_near_bodies(self):
        """Values that differ at one place are bodies only if the system they tell has just them as its body."""
        random = Random(9)
        for dimension in (1, 2, 3):
            for system in some_systems(dimension, 24, 140 + dimension):
                body = body_of(dimension, system)
                if body is not None:
                    for value in self.near(random, body):
                        self.same(is_body(dimension, value), value == body_anew(dimension, self.told(value)))

    def near(self, random, body):
        flat, walls, out = body
        if walls:
            number = random.randrange(len(walls))
            yield (flat, walls[:number] + walls[number + 1:], out and ())
            yield (flat, walls, out + ((number,),))
            yield (flat, walls[1:] + walls[:1], out)
            yield (flat, walls, tuple(sorted(out + ((number,),))))
            yield (flat, walls[:number] + (tuple(2 * a for a in walls[number]),) + walls[number + 1:], out)
            yield (flat, walls[:number] + (walls[number][:-1] + (walls[number][-1] + 1,),) + walls[number + 1:], out)
            yield (flat, walls, tuple(sorted(set(out + (tuple(range(len(walls))),)))))
        if out:
            yield (flat, walls, out[1:])
            yield (flat, walls, out[1:] + out[:1])
        yield (flat[1:], walls, out)

    def told(self, value):
        flat, walls, out = value
        sums = [tuple(sum(numbers) for numbers in zip(*[walls[k] for k in face])) for face in out]
        return (tuple(("eq", row) for row in flat) + tuple(("ge", row) for row in walls)
                + tuple(("gt", row) for row in sums))

    def test_any_number_of_walls(self):
        # A polygon with 80 sides: what touches the parabola at 80 places, and a side above.
        walls = tuple(sorted([(-2 * k, 1, k * k) for k in range(-40, 39)] + [(0, -1, 5000)]))
        self.same(is_body(2, ((), walls, ())), True)
        self.same(is_body(2, ((), walls, ((79,),))), True)
        self.same(is_body(2, ((), walls + ((1, 0, 10 ** 6),), ())), False)
        self.assertEqual(len(faces(2, ((), walls, ()))), 161)
        self.assertEqual(len(system_of(2, ((), walls, ((3,), (7,))))), 82)


class SystemOf(SolidCase):

    def test_worked_by_hand(self):
        self.same(system_of(1, None), (("ge", (0, -1)),))
        self.same(system_of(3, None), (("ge", (0, 0, 0, -1)),))
        self.same(system_of(2, ((), (), ())), ())
        self.same(system_of(2, (((1, -1, 0),), ((0, -1, 2), (0, 1, 0)), ((0,),))),
                  (("eq", (1, -1, 0)), ("ge", (0, -1, 2)), ("ge", (0, 1, 0)), ("gt", (0, -1, 2))))
        self.same(system_of(dimension=2, body=((), SQUARE_WALLS, ((0, 2), (3,)))),
                  tuple(("ge", row) for row in SQUARE_WALLS) + (("gt", (-1, 1, 1)), ("gt", (1, 0, 0))))
        self.same(system_of(2, ((), ((-2, 0, 3), (0, -2, 3)), ((0, 1),)))[-1], ("gt", (-2, -2, 6)))

    def test_it_tells_the_set(self):
        for dimension in (1, 2, 3):
            for system in some_systems(dimension, 60, 150 + dimension):
                body = body_of(dimension, system)
                pairs = system_of(dimension, body)
                self.assertTrue(lies_within(pairs, system, dimension) and lies_within(system, pairs, dimension))
                self.same(body_of(dimension, pairs), body)

    def test_no_body(self):
        for call in OF_BODIES:
            for value in NO_BODIES:
                with self.subTest(call=call.__name__, value=repr(value)):
                    self.refused(NotForm, call, 2, value, word="body")
            self.refused(NotForm, call, 1, ((), SQUARE_WALLS, ()), word="body")
            for value in NO_INTEGERS:
                self.refused(NotForm, call, 2, ((), ((1, 0, value),), ()), word="body")
                self.refused(NotForm, call, 2, (((1, value, 0),), (), ()), word="body")
                self.refused(NotForm, call, 2, ((), ((0, 1, 0), (1, 0, 0)), ((value,),)), word="body")


class Compared(SolidCase):

    def judged(self, dimension, system, other):
        within, holds = lies_within(system, other, dimension), lies_within(other, system, dimension)
        self.same(set_within(dimension, system, other), within)
        self.same(set_within(dimension=dimension, system=other, other=system), holds)
        self.same(same_set(dimension, system, other), within and holds)
        for one, two in ((system, other), (other, system)):
            point = parting_of(dimension, one, two)
            self.assertEqual(point is None, within and holds)
            if point is not None:
                check_point(dimension, point)
                self.assertNotEqual(holds_all(dimension, one, point), holds_all(dimension, two, point))
        return within, holds

    def test_worked_by_hand(self):
        half = (("ge", (1, 0)),)
        self.assertEqual(self.judged(1, half, ()), (True, False))
        self.assertEqual(self.judged(1, half, (("gt", (1, 0)),)), (False, True))
        self.assertEqual(self.judged(1, half, (("ge", (2, 0)), ("gt", (1, 1)))), (True, True))
        self.assertEqual(self.judged(1, half, (("ge", (-1, 0)),)), (False, False))
        self.assertEqual(self.judged(1, half, (("eq", (1, -4)),)), (False, True))
        self.assertEqual(self.judged(1, half + (("ge", (-1, 0)),), (("eq", (7, 0)),)), (True, True))
        self.same(same_set(dimension=1, system=half, other=()), False)
        self.same(parting_of(dimension=1, system=half, other=half), None)

    def test_empty_sets(self):
        nowhere, other = (("gt", (0, 0, 0)),), (("ge", (1, 0, 0)), ("gt", (-1, 0, 0)))
        self.assertEqual(self.judged(2, nowhere, other), (True, True))
        self.assertEqual(self.judged(2, nowhere, SQUARE), (True, False))
        self.assertEqual(self.judged(2, nowhere, ()), (True, False))

    def test_a_corner_more(self):
        self.assertEqual(self.judged(2, SQUARE + (("gt", (1, 1, 0)),), SQUARE), (True, False))
        self.same(parting_of(2, SQUARE + (("gt", (1, 1, 0)),), SQUARE), (0, 0, 1))
        self.assertEqual(self.judged(2, SQUARE + (("gt", (1, 1, 0)),), SQUARE + (("gt", (1, 2, 0)),)), (True, True))

    def test_some_systems(self):
        random = Random(10)
        found = []
        for dimension in (1, 2, 3, 4):
            for system in some_systems(dimension, 70, 160 + dimension):
                found.append(self.judged(dimension, system, some_system(random, dimension, random.randint(0, 3))))
                fewer = tuple(random.sample(system, max(0, len(system) - 1)))
                found.append(self.judged(dimension, system, fewer))
        for kind in ((True, True), (True, False), (False, True), (False, False)):
            self.assertGreater(found.count(kind), 15)

    def test_great_numbers(self):
        self.assertEqual(self.judged(1, (("ge", (BIG, -1)),), (("ge", (BIG, 0)),)), (True, False))
        self.assertEqual(self.judged(2, (("gt", (BIG, OTHER_BIG, 0)),), (("gt", (BIG, OTHER_BIG, 1)),)), (True, False))


class Needless(SolidCase):

    def test_worked_by_hand(self):
        self.same(needless(1, ()), ())
        self.same(needless(1, (("ge", (1, 0)),)), ())
        self.same(needless(1, (("ge", (1, 0)), ("ge", (1, 0)))), (0, 1))
        self.same(needless(1, (("ge", (1, 0)), ("gt", (2, 0)), ("ge", (1, 1)))), (0, 2))
        self.same(needless(1, (("ge", (0, 0)), ("gt", (0, 1)), ("eq", (0, 0)))), (0, 1, 2))
        self.same(needless(2, SQUARE + (("ge", (1, 1, 0)), ("gt", (1, 1, 1)))), (4, 5))
        self.same(needless(2, SQUARE + (("gt", (1, 1, 0)), ("gt", (1, 2, 0)))), (4, 5))
        self.same(needless(dimension=2, system=SQUARE + (("eq", (1, 0, 0)),)), (0, 1))
        self.same(needless(2, SQUARE + (("eq", (1, 1, 0)),)), (1, 3))
        # What holds nowhere holds nowhere still without what is not needed for this.
        self.same(needless(1, (("ge", (0, -1)), ("ge", (1, 0)))), (1,))
        self.same(needless(1, (("ge", (0, -1)), ("gt", (0, 0)))), (0, 1))

    def test_some_systems(self):
        for dimension in (1, 2, 3, 4):
            for system in some_systems(dimension, 50, 170 + dimension):
                wanted = tuple(k for k in range(len(system))
                               if lies_within(system[:k] + system[k + 1:], system[k:k + 1], dimension))
                self.same(needless(dimension, system), wanted)


class Faces(SolidCase):

    def test_worked_by_hand(self):
        self.same(faces(2, None), ())
        self.same(faces(2, ((), (), ())), ((2, ()),))
        self.same(faces(1, ((), ((-1, 1), (1, 0)), ((1,),))), ((0, (0,)), (0, (1,)), (1, ())))
        self.same(faces(2, (((1, 0, 0), (0, 1, 0)), (), ())), ((0, ()),))
        self.same(faces(dimension=2, body=((), SQUARE_WALLS, ((2, 3),))),
                  ((0, (0, 1)), (0, (0, 2)), (0, (1, 3)), (0, (2, 3)), (1, (0,)), (1, (1,)), (1, (2,)), (1, (3,)),
                   (2, ())))
        self.same(faces(2, body_of(2, (("gt", (1, 1, 0)), ("ge", (-1, -1, 1))))), ((1, (0,)), (1, (1,)), (2, ())))
        self.same(faces(3, body_of(3, (("ge", (1, 0, 0, 0)), ("ge", (0, 1, 0, 0))))),
                  ((1, (0, 1)), (2, (0,)), (2, (1,)), (3, ())))

    def test_more_walls_than_needed_in_a_corner(self):
        pyramid = (("ge", (0, 0, 1, 0)), ("ge", (1, 0, -1, 1)), ("ge", (-1, 0, -1, 1)), ("ge", (0, 1, -1, 1)),
                   ("ge", (0, -1, -1, 1)))
        found = faces(3, body_of(3, pyramid))
        self.assertEqual([sum(dimension == own for own, _ in found) for dimension in range(4)], [5, 8, 5, 1])
        self.assertIn((0, (0, 1, 3, 4)), found)
        self.assertEqual(body_of(3, pyramid)[1][2], (0, 0, 1, 0))

    def test_told_anew(self):
        many = 0
        for dimension in (1, 2, 3):
            for system in some_systems(dimension, 30, 180 + dimension):
                body = body_of(dimension, system)
                found = faces(dimension, body)
                if body is not None and len(body[1]) <= 6:
                    self.same(found, self.faces_anew(dimension, body))
                    many += len(found)
                bounded = is_bounded_body(dimension, body)
                self.same(bounded, all(not self.grows(dimension, system, k, sign)
                                       for k in range(dimension) for sign in (1, -1)))
                if bounded and body is not None:
                    self.assertEqual(sum((-1) ** own for own, _ in found), 1)
                self.check_chain(found)
        self.assertGreater(many, 200)

    def faces_anew(self, dimension, body):
        closed = [("eq", row) for row in body[0]] + [("ge", row) for row in body[1]]
        found = set()
        for many in range(len(body[1]) + 1):
            for lot in combinations(body[1], many):
                face = closed + [("eq", row) for row in lot]
                if has_points(face, dimension):
                    numbers = [k for k, row in enumerate(body[1]) if not has_points(face + [("gt", row)], dimension)]
                    found.add((dimension_of(face, dimension), tuple(numbers)))
        return tuple(sorted(found))

    def grows(self, dimension, system, place, sign):
        far = (0,) * place + (sign,) + (0,) * (dimension - 1 - place) + (-10 ** 6,)
        return has_points(list(system) + [("gt", far)], dimension)

    def check_chain(self, found):
        """Each face with lesser dimension lies in one that has just one dimension more."""
        for own, numbers in found:
            if numbers:
                self.assertTrue(any(other == own + 1 and set(fewer) < set(numbers) for other, fewer in found))

    def test_bounded(self):
        self.same(is_bounded_body(1, None), True)
        self.same(is_bounded_body(2, ((), (), ())), False)
        self.same(is_bounded_body(2, ((), ((1, 0, 0),), ())), False)
        self.same(is_bounded_body(2, ((), ((0, 1, 0), (1, 0, 0)), ())), False)
        self.same(is_bounded_body(2, (((1, 0, 0),), (), ())), False)
        self.same(is_bounded_body(2, (((1, 0, 0), (0, 1, 0)), (), ())), True)
        self.same(is_bounded_body(dimension=2, body=((), SQUARE_WALLS, ((0,),))), True)

    def test_inner_point(self):
        self.refused(Empty, inner_point, 1, None)
        self.refused(Empty, inner_point, 3, None)
        self.same(inner_point(2, (((1, 0, 0), (0, 2, -1)), (), ())), (0, 1, 2))
        random = Random(11)
        for dimension in (1, 2, 3):
            systems = list(some_systems(dimension, 60, 190 + dimension))
            for system in systems + [some_box(random, dimension)]:
                body = body_of(dimension, system)
                if body is not None:
                    point = check_point(dimension, inner_point(dimension=dimension, body=body))
                    self.assertTrue(holds_all(dimension, system, point))
                    self.assertEqual([sign_at(row, point) for row in body[1]], [1] * len(body[1]))
                    self.same(inner_point(dimension, body), point)

    def test_closed_walls(self):
        """The closure is where no wall is negative; the set is this without the faces left out."""
        for dimension in (1, 2, 3):
            for system in some_systems(dimension, 40, 200 + dimension):
                body = body_of(dimension, system)
                if body is not None:
                    closed = [("eq", row) for row in body[0]] + [("ge", row) for row in body[1]]
                    self.assertTrue(lies_within(loose(system), closed, dimension))
                    self.assertTrue(lies_within(closed, loose(system), dimension))
                    for face in body[2]:
                        at_face = closed + [("eq", body[1][number]) for number in face]
                        self.assertTrue(has_points(at_face, dimension))
                        self.assertFalse(has_points(at_face + list(system), dimension))
                    for row in body[1]:
                        self.assertFalse(has_points(closed + [("gt", opposite(row))], dimension))


if __name__ == "__main__":
    unittest.main()
