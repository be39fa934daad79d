"""Promises [69], [70], [73] and the part of [71] on mesh_volume: meshes, rays through them, their volumes."""

import unittest
from fractions import Fraction
from itertools import combinations, permutations
from random import Random

from helping import NO_INTEGERS, NO_TUPLES, SolidCase, numbers_at, pair, told
from making import small_points
from onesolid.errors import Flat, NotMesh, NotPaper, Unlike
from onesolid.flats import flat_through
from onesolid.holding import point_led
from onesolid.inout import mesh_of
from onesolid.meshes import (check_mesh, is_let, led_mesh, let_ray, mesh_corners, mesh_edges, mesh_euler, mesh_volume,
                             met,
                             on_mesh, parity, turned_mesh)
from onesolid.points import check_direction, direction_of, direction_to, moved_by, point_of
from onesolid.rows import sign_at, slope

A, B, C, D = (0, 0, 1), (4, 0, 1), (4, 4, 1), (0, 4, 1)
SQUARE = ((A, B), (B, C), (C, D), (D, A))
# A square traced so that two of its sides cross.
BOW = ((A, C), (C, B), (B, D), (D, A))
O, X, Y, Z = (0, 0, 0, 1), (4, 0, 0, 1), (0, 4, 0, 1), (0, 0, 4, 1)
PYRAMID = ((O, Y, X), (O, X, Z), (O, Z, Y), (X, Y, Z))
DOTS = (((1, 1),), ((3, 1),), ((9, 2),), ((7, 1),))


def some_mesh(random, dimension, many):
    """A mesh of the rims of small simplices, some of which lie upon one another."""
    sides = []
    while len(sides) < many * (dimension + 1):
        corners = small_points(dimension, dimension + 1, random.random())
        if len(set(corners)) == dimension + 1 and flat_through(tuple(corners)) == ():
            for lot in combinations(corners, dimension):
                sides.append(tuple(random.sample(lot, dimension)))
    random.shuffle(sides)
    return tuple(sides)


def weights_anew(side, point):
    """Weights, adding up to 1, with which a side's corners add up to a point, by Cramer's rule; None off its flat."""
    columns = [numbers_at(corner) + [Fraction(1)] for corner in side]
    wanted = numbers_at(point) + [Fraction(1)]
    many = len(side)
    for places in combinations(range(len(wanted)), many):
        total = determinant([[column[place] for place in places] for column in columns])
        if total != 0:
            found = []
            for own in range(many):
                rows = [wanted if number == own else column for number, column in enumerate(columns)]
                found.append(determinant([[row[place] for place in places] for row in rows]) / total)
            back = [sum(weight * column[place] for weight, column in zip(found,
                                                                         columns)) for place in range(len(wanted))]
            return found if back == wanted else None
    raise AssertionError


def determinant(rows):
    if not rows:
        return Fraction(1)
    return sum((-1) ** k * rows[0][k] * determinant([row[:k] + row[k + 1:] for row in rows[1:]])
               for k in range(len(rows)))


def meets_anew(side, point, direction):
    """How a ray meets a side: "not", "within" or "else", by what the words say."""
    plane = flat_through(side)[0]
    growth = slope(plane, direction)
    if growth == 0:
        if sign_at(plane, point) != 0:
            return "not"
        # In the flat: it meets the side where some weights become 0, if at all.
        near, far = weights_anew(side, point), weights_anew(side, moved_by(point, direction, (1, 1)))
        turns = [-a / (b - a) for a, b in zip(near, far) if a != b] + [Fraction(0)]
        for turn in turns:
            if turn >= 0 and min(a + turn * (b - a) for a, b in zip(near, far)) >= 0:
                return "else"
        return "not"
    height = sum(a * x for a, x in zip(plane, numbers_at(point))) + plane[-1]
    turn = -height / growth
    if turn < 0:
        return "not"
    place = point_of(tuple(pair(x + turn * step) for x, step in zip(numbers_at(point), direction)))
    weights = weights_anew(side, place)
    if min(weights) < 0:
        return "not"
    return "within" if min(weights) > 0 else "else"


class CheckMesh(SolidCase):

    def test_right_ones(self):
        for dimension, mesh in ((1, ()), (2, ()), (3, ()), (1, DOTS), (2, SQUARE), (2, BOW), (3, PYRAMID),
                                (1, DOTS + DOTS),
                                (2, SQUARE + SQUARE), (2, ((A, B), (B, A))), (2, ((A, B), (A, B))), (3, PYRAMID[::-1]),
                                (3, (PYRAMID[0],) * 2), (1, DOTS[:1] * 2), (2, SQUARE + BOW),
                                (3, turned_mesh(PYRAMID))):
            self.assertIs(check_mesh(dimension=dimension, value=mesh), mesh)
        random = Random(430)
        for dimension in (1, 2, 3):
            for _ in range(10):
                mesh = some_mesh(random, dimension, 3)
                self.assertIs(check_mesh(dimension, mesh), mesh)

    def test_form(self):
        for dimension, mesh in ((1, DOTS), (2, SQUARE), (3, PYRAMID)):
            side = mesh[0]
            for value in NO_TUPLES:
                self.refused(NotMesh, check_mesh, dimension, value, word="form")
                self.refused(NotMesh, check_mesh, dimension, (value,), word="form")
                self.refused(NotMesh, check_mesh, dimension, mesh + ((value,) + side[1:],), word="form")
            for value in (list(mesh), mesh + ((),), mesh + (side + side[:1],), mesh + (side[1:],), (list(side),),
                          mesh + ((side[0][:-1],) + side[1:],), mesh + ((side[0] + (1,),) + side[1:],),
                          mesh + ((side[0][:-1] + (0,),) + side[1:],)):
                self.refused(NotMesh, check_mesh, dimension, value, word="form")
            if dimension > 1:
                self.refused(NotMesh, check_mesh, dimension, mesh + ((side[0],) * dimension,), word="form")
                self.refused(NotMesh, check_mesh, dimension, mesh + ((side[0],) * 2 + side[2:],), word="form")
            for value in NO_INTEGERS:
                self.refused(NotMesh, check_mesh, dimension, (((value,) + side[0][1:],) + side[1:],), word="form")

    def test_flat_and_edge(self):
        line = ((0, 0, 0, 1), (1, 1, 1, 1), (5, 5, 5, 2))
        self.refused(NotMesh, check_mesh, 3, (line, line), word="flat")
        self.refused(NotMesh, check_mesh, 3, (line,), word="flat")
        self.refused(NotMesh, check_mesh, 3, PYRAMID + (line,), word="flat")
        self.refused(NotMesh, check_mesh, 3, (line, None), word="form")
        for dimension, mesh in ((1, DOTS), (2, SQUARE), (2, BOW), (3, PYRAMID)):
            for number in range(len(mesh)):
                self.refused(NotMesh, check_mesh, dimension, mesh[:number] + mesh[number + 1:], word="edge")
                self.refused(NotMesh, check_mesh, dimension, mesh + mesh[number:number + 1], word="edge")
        self.refused(NotMesh, check_mesh, 2, ((A, B), (B, C)), word="edge")


class Turned(SolidCase):

    def test_turned(self):
        self.same(turned_mesh(mesh=()), ())
        self.same(turned_mesh(SQUARE), ((B, A), (C, B), (D, C), (A, D)))
        self.same(turned_mesh(PYRAMID), ((Y, O, X), (X, O, Z), (Z, O, Y), (Y, X, Z)))
        random = Random(431)
        for dimension in (2, 3):
            for _ in range(10):
                mesh = some_mesh(random, dimension, 3)
                self.same(turned_mesh(turned_mesh(mesh)), mesh)
                volume = told(mesh_volume(dimension, mesh))
                self.assertEqual(told(mesh_volume(dimension, turned_mesh(mesh))), -volume)

    def test_led(self):
        self.same(led_mesh(mesh=SQUARE, table=((1, 0, 7), (0, 2, 0))),
                  (((7, 0, 1), (11, 0, 1)), ((11, 0, 1), (11, 8, 1)), ((11, 8, 1), (7, 8, 1)), ((7, 8, 1), (7, 0, 1))))
        self.same(led_mesh((), ((1, 0, 7), (0, 2, 0))), ())
        self.same(led_mesh(DOTS, ((0, 5),)), (((5, 1),),) * 4)
        self.refused(Flat, led_mesh, SQUARE, ((1, 0, 0), (0, 0, 0)))
        self.refused(Flat, led_mesh, PYRAMID, ((1, 0, 0, 0), (0, 1, 0, 0), (0, 0, 0, 0)))
        self.refused(Flat, led_mesh, PYRAMID, ((1, 0, 0, 0), (1, 0, 0, 0), (0, 0, 0, 5)))
        # A table without an inverse under which no side becomes flat.
        slant = (((0, 0, 1), (4, 0, 1)), ((4, 0, 1), (5, 5, 1)), ((5, 5, 1), (0, 0, 1)))
        self.same(led_mesh(slant, ((1, 0, 0), (0, 0, 0)))[1], ((4, 0, 1), (5, 0, 1)))
        random = Random(432)
        for dimension in (1, 2, 3):
            for _ in range(15):
                mesh = some_mesh(random, dimension, 2)
                table = tuple(tuple(random.randint(-2, 2) for _ in range(dimension + 1)) for _ in range(dimension))
                led = tuple(tuple(point_led(table, corner) for corner in side) for side in mesh)
                if any(len(flat_through(side)) > 1 for side in led):
                    self.refused(Flat, led_mesh, mesh, table)
                    continue
                self.same(led_mesh(mesh, table), led)
                self.assertIs(check_mesh(dimension, led), led)


class Rays(SolidCase):

    def test_worked_by_hand(self):
        self.assertIs(on_mesh(mesh=SQUARE, point=(2, 0, 1)), True)
        self.assertIs(on_mesh(SQUARE, A), True)
        self.assertIs(on_mesh(SQUARE, (2, 2, 1)), False)
        self.assertIs(on_mesh(SQUARE, (5, 0, 1)), False)
        self.assertIs(on_mesh((), (2, 0, 1)), False)
        self.assertIs(on_mesh(BOW, (2, 2, 1)), True)
        middle = (2, 1, 1)
        self.assertIs(is_let(mesh=SQUARE, point=middle, direction=(1, 0)), True)
        self.same(met(mesh=SQUARE, point=middle, direction=(1, 0)), (1,))
        # Towards a corner; from a side; along a side, and along its line going away; parallel to one.
        self.assertIs(is_let(SQUARE, (2, 2, 1), (1, 1)), False)
        self.assertIs(is_let(SQUARE, (2, 0, 1), (0, -1)), False)
        self.assertIs(is_let(SQUARE, (-2, 0, 1), (1, 0)), False)
        self.assertIs(is_let(SQUARE, (-2, 0, 1), (-1, 0)), True)
        self.same(met(SQUARE, (-2, 0, 1), (-1, 0)), ())
        self.same(met(SQUARE, (-2, 1, 1), (1, 0)), (1, 3))
        self.same(met(BOW, (-2, 1, 1), (1, 0)), (0, 1, 2, 3))
        for direction in ((1, 1), (-1, -1), (1, -1)):
            self.refused(NotPaper, met, SQUARE, (2, 2, 1), direction, word="ray")
        self.refused(NotPaper, met, SQUARE, A, (-1, -2), word="ray")
        # In space: through an edge, in a plane of a side, within it and beside it.
        self.assertIs(is_let(PYRAMID, (1, 1, 1, 1), (1, 1, 1)), True)
        self.assertIs(is_let(PYRAMID, (1, 1, 1, 1), (-1, -1, 0)), False)
        self.assertIs(is_let(PYRAMID, (1, 1, 1, 1), (-1, -1, -1)), False)
        self.assertIs(is_let(PYRAMID, (5, 5, 0, 1), (-1, -1, 0)), False)
        self.assertIs(is_let(PYRAMID, (5, 5, 0, 1), (-1, 1, 0)), True)
        self.assertIs(is_let(PYRAMID, (5, 5, 0, 1), (1, 0, 0)), True)
        self.assertIs(is_let(PYRAMID, (5, -5, 0, 1), (-1, 1, 0)), False)
        self.same(met(PYRAMID, (1, 1, -1, 1), (0, 0, 1)), (0, 3))
        self.same(met(DOTS, (2, 1), (1,)), (1, 2, 3))
        self.same(met(DOTS, (2, 1), (-1,)), (0,))
        self.same(met(DOTS + DOTS, (2, 1), (-1,)), (0, 4))
        self.same(met((), (2, 3, 1), (1, 7)), ())
        self.refused(NotPaper, met, DOTS, (3, 1), (1,), word="ray")

    def test_told_anew(self):
        random = Random(433)
        for dimension, many in ((1, 15), (2, 25), (3, 15)):
            for _ in range(many):
                mesh = some_mesh(random, dimension, random.randint(1, 3))
                points = small_points(dimension, 6, random.random()) + [mesh[0][0]]
                for point in points:
                    on_side = [weights_anew(side, point) for side in mesh]
                    is_on = any(weights is not None and min(weights) >= 0 for weights in on_side)
                    self.assertIs(on_mesh(mesh, point), is_on)
                    for _ in range(4):
                        direction = tuple(random.choice((-1, 0, 0, 1, 2)) for _ in range(dimension))
                        if dimension == 1:
                            direction = (random.choice((-1, 1)),)
                        if not any(direction) or all(step in (0, 2, -2) for step in direction):
                            continue
                        self.one_ray(mesh, point, direction, is_on)
                    self.parities(mesh, point, is_on)

    def one_ray(self, mesh, point, direction, is_on):
        check_direction(len(direction), direction)
        found = [meets_anew(side, point, direction) for side in mesh]
        let = not is_on and "else" not in found
        self.assertIs(is_let(mesh, point, direction), let)
        if let:
            self.same(met(mesh, point, direction), tuple(k for k, word in enumerate(found) if word == "within"))
            self.assertEqual(len(met(mesh, point, direction)) % 2, parity(mesh, point))
        else:
            self.refused(NotPaper, met, mesh, point, direction, word="ray")

    def test_rays_in_the_flat_of_a_side(self):
        random = Random(436)
        seen = {True: 0, False: 0}
        for dimension, many in ((2, 60), (3, 150)):
            for _ in range(many):
                mesh = some_mesh(random, dimension, 1)
                mesh = (mesh[0], mesh[0])
                side = mesh[0]
                steps = [direction_to(side[0], corner) for corner in side[1:]]
                point = side[0]
                for step in steps:
                    point = moved_by(point, step, (random.randint(-3, 4), random.choice((1, 2))))
                numbers = [random.randint(-2, 2) for _ in steps]
                total = tuple(sum(a * step[place] for a, step in zip(numbers, steps)) for place in range(dimension))
                if any(total):
                    direction = direction_of(total)
                    is_on = min(weights_anew(side, point)) >= 0
                    self.one_ray(mesh, point, direction, is_on)
                    seen[is_let(mesh, point, direction)] += 1
        self.assertGreater(min(seen.values()), 20)

    def parities(self, mesh, point, is_on):
        if is_on:
            self.refused(Unlike, let_ray, mesh, point)
            self.refused(Unlike, parity, mesh, point)
        else:
            direction = let_ray(mesh=mesh, point=point)
            check_direction(len(point) - 1, direction)
            self.assertIs(is_let(mesh, point, direction), True)
            self.same(let_ray(mesh, point), direction)
            self.same(parity(mesh=mesh, point=point), len(met(mesh, point, direction)) % 2)

    def test_parities_worked_by_hand(self):
        self.same(parity(SQUARE, (2, 2, 1)), 1)
        self.same(parity(SQUARE, (-2, 2, 1)), 0)
        self.same(parity(SQUARE + SQUARE, (2, 2, 1)), 0)
        self.same(parity(BOW, (2, 3, 1)), parity(BOW, (2, 1, 1)))
        self.same(parity(BOW, (1, 2, 1)), 1 - parity(BOW, (2, 1, 1)))
        self.same(parity(PYRAMID, (1, 1, 1, 1)), 1)
        self.same(parity(PYRAMID, (4, 4, 4, 1)), 0)
        self.same([parity(DOTS, (k, 4)) for k in (1, 5, 15, 27, 29)], [0, 1, 0, 1, 0])
        for point in ((1, 2), (3, 2, 1), (1, 2, 3, 4)):
            self.same(parity((), point), 0)


class Volumes(SolidCase):

    def test_worked_by_hand(self):
        self.same(mesh_volume(dimension=2, mesh=SQUARE), (16, 1))
        self.same(mesh_volume(2, turned_mesh(SQUARE)), (-16, 1))
        self.same(mesh_volume(2, BOW), (0, 1))
        self.same(mesh_volume(3, PYRAMID), (32, 3))
        self.same(mesh_volume(1, DOTS), (9, 2))
        self.same(mesh_volume(1, DOTS[::-1]), (9, 2))
        self.same(mesh_volume(1, DOTS + DOTS), (0, 1))
        for dimension in (1, 2, 3):
            self.same(mesh_volume(dimension, ()), (0, 1))

    def test_told_anew(self):
        random = Random(434)
        for dimension, factorial in ((2, 2), (3, 6)):
            for _ in range(15):
                mesh = some_mesh(random, dimension, 3)
                total = sum(determinant([numbers_at(corner) for corner in side]) for side in mesh)
                self.same(mesh_volume(dimension, mesh), pair(total / factorial))
        for _ in range(15):
            mesh = some_mesh(random, 1, 4)
            numbers = sorted(Fraction(*side[0]) for side in mesh)
            self.same(mesh_volume(1, mesh), pair(sum(numbers[1::2]) - sum(numbers[::2])))


class Counts(SolidCase):

    def test_worked_by_hand(self):
        self.same(mesh_corners(mesh=PYRAMID), (O, Z, Y, X))
        self.same(mesh_edges(mesh=PYRAMID), ((O, Z), (O, Y), (O, X), (Z, Y), (Z, X), (Y, X)))
        self.same(mesh_euler(mesh=PYRAMID), 2)
        self.same((mesh_corners(()), mesh_edges(()), mesh_euler(())), ((), (), 0))
        self.same(mesh_euler(PYRAMID[:1] * 2), 2)
        self.same(mesh_euler(PYRAMID + PYRAMID), 6)
        for side in permutations((O, X, Y)):
            self.same(mesh_edges((side, side)), ((O, Y), (O, X), (Y, X)))

    def test_told_anew(self):
        random = Random(435)
        for _ in range(10):
            mesh = some_mesh(random, 3, 3)
            corners = {corner for side in mesh for corner in side}
            edges = {tuple(sorted(lot)) for side in mesh for lot in combinations(side, 2)}
            self.same(mesh_corners(mesh), tuple(sorted(corners)))
            self.same(mesh_edges(mesh), tuple(sorted(edges)))
            self.same(mesh_euler(mesh), len(corners) - len(edges) + len(mesh))
        self.same(mesh_of((3, (), ())), ())


if __name__ == "__main__":
    unittest.main()
