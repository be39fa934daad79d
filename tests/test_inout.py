"""Promises [71] and [72]: the solids of meshes and the meshes of solids."""

import unittest
from random import Random

from formed import ALL, EMPTY, MOST, bounded_forms, box, hard_to_close, is_face, lone, points_of_line, some_forms
from helping import SolidCase
from making import small_points
from onesolid.cells import cell_dimension, cells_of, point_in
from onesolid.cuttings import cutting_in, euler, is_bounded
from onesolid.deeds import closed, either, either_one, inner, is_closed, less, regular, rest, rim
from onesolid.errors import Endless, NotForm, TooGreat
from onesolid.flats import flat_through
from onesolid.forms import form_from, form_of, has_point
from onesolid.inout import is_rimmed, mesh_of, solid_of, walls
from onesolid.measures import volume
from onesolid.meshes import check_mesh, mesh_euler, mesh_volume, on_mesh, parity, turned_mesh
from onesolid.rows import plane_of
from test_meshes import BOW, DOTS, PYRAMID, SQUARE, determinant, some_mesh

DIMENSIONS = (1, 2, 3)
OPEN = ("gt", "lt")
RING = less(form_of(2, box(2, 0, 3)), form_of(2, box(2, 1, 2, OPEN)))
HOLLOW = less(form_of(3, box(3, 0, 3)), form_of(3, box(3, 1, 2, OPEN)))


def rimmed_forms(dimension, many, seed):
    for form in bounded_forms(dimension, many, seed):
        try:
            yield regular(form)
        except TooGreat:
            pass


class SolidOf(SolidCase):

    def test_worked_by_hand(self):
        for dimension in DIMENSIONS:
            self.same(solid_of(dimension=dimension, mesh=()), EMPTY[dimension])
        square = form_of(2, box(2, 0, 4))
        self.same(solid_of(2, SQUARE), square)
        self.same(solid_of(2, turned_mesh(SQUARE)), square)
        self.same(solid_of(2, SQUARE[::-1]), square)
        self.same(solid_of(2, SQUARE + SQUARE), EMPTY[2])
        self.same(solid_of(2, SQUARE + SQUARE + SQUARE), square)
        # Crossing sides: what is left and what is right of the crossing.
        self.same(solid_of(2, BOW), form_of(2, ("and", box(2, 0, 4), ("or", ("and", ("is", "le", (1, -1, 0)),
                                                                             ("is", "le", (1, 1, -4))),
                                                                     ("and", ("is", "ge", (1, -1, 0)),
                                                                      ("is", "ge", (1, 1, -4)))))))
        self.same(solid_of(1, DOTS), form_of(1, ("or", box(1, 1, 3), ("and", ("is", "ge", (2, -9)),
                                                                      ("is", "le", (1, -7))))))
        self.same(solid_of(1, DOTS[:1] * 2), EMPTY[1])
        pyramid = form_of(3, ("and", ("is", "ge", (1, 0, 0, 0)), ("is", "ge", (0, 1, 0, 0)), ("is", "ge", (0, 0, 1, 0)),
                              ("is", "le", (1, 1, 1, -4))))
        self.same(solid_of(3, PYRAMID), pyramid)
        self.same(solid_of(3, PYRAMID[:1] * 2), EMPTY[3])

    def test_told_anew(self):
        random = Random(440)
        for dimension, many in ((1, 15), (2, 20), (3, 8)):
            for _ in range(many):
                mesh = some_mesh(random, dimension, random.randint(1, 2))
                planes = tuple(sorted({flat_through(side)[0] for side in mesh}))
                try:
                    found = solid_of(dimension, mesh)
                except TooGreat:
                    continue
                odd = []
                for signs in cells_of(dimension, planes):
                    if 0 not in signs and parity(mesh, point_in(dimension, planes, signs)) == 1:
                        odd.append(signs)
                self.same(found, closed(form_from(dimension, planes, tuple(odd))))
                self.same(regular(found), found)
                self.assertTrue(is_bounded(found) and is_closed(found))
                shuffled = tuple(tuple(random.sample(side, dimension)) for side in random.sample(mesh, len(mesh)))
                self.same(solid_of(dimension, shuffled), found)
                for point in small_points(dimension, 8, random.random()):
                    if not on_mesh(mesh, point):
                        self.assertIs(has_point(found, point), parity(mesh, point) == 1)

    def test_too_great(self):
        for dimension, step in ((1, 1), (2, 2), (3, 3)):
            # Each simplex has sides in just one plane more than those ahead.
            most = MOST[dimension]
            if dimension == 1:
                mesh = tuple(((k, 1),) for k in range(62))
                self.refused(TooGreat, solid_of, 1, mesh, most=60)
                self.assertEqual(len(solid_of(1, mesh[:60])[1]), 60)
                self.assertEqual(len(solid_of(1, mesh[:60] + mesh[:2])[1]), 58)
            if dimension == 2:
                # Flat triangles with the corner (0, 0) and corners on the line y = 1.
                mesh = ()
                for k in range(24):
                    corners = ((0, 0, 1), (k, 1, 1), (k + 1, 1, 1))
                    mesh += tuple((corners[one], corners[one - 1]) for one in range(3))
                self.refused(TooGreat, solid_of, 2, mesh, most=24)
                self.assertEqual(len(solid_of(2, mesh[:66])[1]), 3)
            self.assertGreater(most, step)


class Walls(SolidCase):

    def test_is_rimmed(self):
        for dimension in DIMENSIONS:
            whole = form_of(dimension, box(dimension))
            for form in (EMPTY[dimension], whole, either(whole, form_of(dimension, box(dimension, 2, 5)))):
                self.assertIs(is_rimmed(form=form), True)
            for form in (ALL[dimension], inner(whole), rest(whole), rest(inner(whole)), rim(whole),
                         form_of(dimension, lone(*[0] * dimension)), either(whole,
                                                                            form_of(dimension, lone(*[7] * dimension))),
                         form_of(dimension, box(dimension, 0, 1, ("ge", "lt"))),
                         form_of(dimension, ("is", "ge", (1,) * dimension + (0,)))):
                self.assertIs(is_rimmed(form), False)
        for form in (RING, HOLLOW):
            self.assertIs(is_rimmed(form), True)
        for dimension, many in ((1, 15), (2, 12), (3, 5)):
            for form in bounded_forms(dimension, many, 441):
                try:
                    self.assertIs(is_rimmed(form), regular(form) == form)
                except TooGreat:
                    pass

    def test_too_great(self):
        # A bounded set the interior of which has too many planes: what is left of a closed box without slits.
        form = rest(hard_to_close())
        self.assertFalse(is_bounded(form))
        self.assertIs(is_rimmed(form), False)
        self.refused(Endless, mesh_of, form)
        bounded = bounded_and_hard()
        self.refused(TooGreat, regular, bounded, most=16)
        self.refused(TooGreat, is_rimmed, bounded, most=16)
        self.refused(TooGreat, mesh_of, bounded, most=16)

    def test_walls(self):
        self.same(walls(form=EMPTY[2]), ())
        self.same(walls(ALL[3]), ())
        square = form_of(2, box(2))
        self.same(walls(square), tuple(signs for signs in square[2] if signs.count(0) == 1))
        self.assertEqual(len(walls(inner(square))), 4)
        self.assertEqual(len(walls(rest(square))), 4)
        self.same(walls(form_of(2, ("is", "eq", (1, 0, 0)))), ())
        self.same(walls(rest(form_of(2, ("is", "eq", (1, 0, 0))))), ())
        self.same(walls(form_of(1, box(1, 0, 2, OPEN))), ((-1, 0), (0, 1)))
        self.same(walls(points_of_line((1, 2))), ())
        for dimension, many in ((1, 15), (2, 12), (3, 6)):
            for form in some_forms(dimension, many, 4, 442):
                cells = cells_of(dimension, form[1])
                wanted = []
                for signs in cells:
                    if cell_dimension(dimension, form[1], signs) == dimension - 1:
                        beside = [own for own in cells if 0 not in own and is_face(signs, own)]
                        if len([own for own in beside if own in form[2]]) == 1:
                            wanted.append(signs)
                self.same(walls(form), tuple(wanted))


def bounded_and_hard():
    """A bounded set of space the interior of which needs more planes than may be.

    The lowest and the highest part of a box, the latter without the points where eight planes cross, and between them
    what lies on these planes.
    """
    frame = [(1, 0, 0, 100), (1, 0, 0, -100), (0, 1, 0, 100), (0, 1, 0, -100), (0, 0, 1, 30), (0, 0, 1, -100),
             (0, 0, 1, 20), (0, 0, 1, 10)]
    planes = tuple(frame + [(1, k, k * k, k ** 3) for k in range(-4, 4)])
    inside = []
    for signs in cells_of(3, planes):
        if all(signs[2 * k] >= 0 >= signs[2 * k + 1] for k in range(3)):
            crossed = signs[8:].count(0)
            is_between = signs[6] > 0 > signs[7] and crossed > 0
            if is_between or signs[6] <= 0 or (signs[7] >= 0 and crossed < 3):
                inside.append(signs)
    return form_from(3, planes, tuple(inside))


class MeshOf(SolidCase):

    def test_worked_by_hand(self):
        for dimension in DIMENSIONS:
            self.same(mesh_of(form=EMPTY[dimension]), ())
        square = form_of(2, box(2))
        a, b, c, d = (0, 0, 1), (0, 1, 1), (1, 0, 1), (1, 1, 1)
        self.same(mesh_of(square), ((a, c), (b, a), (c, d), (d, b)))
        self.same(mesh_of(form_of(1, box(1, -2, 5))), (((-2, 1),), ((5, 1),)))
        pyramid = solid_of(3, PYRAMID)
        self.same(mesh_of(pyramid), tuple(sorted(PYRAMID[:1] + (((0, 0, 0, 1), (4, 0, 0, 1), (0, 0, 4, 1)),
                                                                ((0, 0, 0, 1), (0, 0, 4, 1), (0, 4, 0, 1)),
                                                                ((0, 0, 4, 1), (4, 0, 0, 1), (0, 4, 0, 1))))))
        cube = mesh_of(form_of(3, box(3)))
        self.assertEqual(len(cube), 12)
        self.same(mesh_euler(cube), 2)
        self.same(mesh_euler(mesh_of(HOLLOW)), 4)

    def test_facts(self):
        random = Random(443)
        for dimension, many in ((1, 15), (2, 12), (3, 5)):
            for form in list(rimmed_forms(dimension, many, 444)) + ([RING] if dimension == 2 else []):
                mesh = mesh_of(form)
                self.assertIs(check_mesh(dimension, mesh), mesh)
                self.assertEqual(list(mesh), sorted(mesh))
                self.same(solid_of(dimension, mesh), form)
                self.same(mesh_volume(dimension, mesh), volume(form))
                for point in small_points(dimension, 5, random.random()):
                    if not on_mesh(mesh, point):
                        self.assertIs(has_point(form, point), parity(mesh, point) == 1)
                if dimension == 3 and mesh:
                    shell = form_from(3, form[1], walls(form))
                    self.same(mesh_euler(mesh), euler(closed(shell)))
                    for side in mesh:
                        self.assertEqual(side[0], min(side))

    def test_sides_word_by_word(self):
        for dimension, many in ((2, 8), (3, 3)):
            for form in rimmed_forms(dimension, many, 445):
                planes = form[1]
                wanted = []
                for signs in walls(form):
                    own = form_from(dimension, planes, (signs,))
                    inside = [cell for cell in form[2] if 0 not in cell and is_face(signs, cell)]
                    self.assertEqual(len(inside), 1)
                    point = point_in(dimension, planes, inside[0])
                    simplices = cutting_in((dimension, planes, (signs,)), signs)
                    self.assertIsNotNone(own)
                    for simplex in simplices:
                        if len(simplex) == dimension:
                            turned = determinant([list(corner) for corner in simplex + (point,)]) < 0
                            wanted.append(simplex[:-2] + (simplex[-1], simplex[-2]) if turned else simplex)
                self.same(mesh_of(form), tuple(sorted(wanted)))

    def test_refusals(self):
        for dimension in DIMENSIONS:
            whole = form_of(dimension, box(dimension))
            for form in (ALL[dimension], rest(whole), rest(inner(whole)),
                         form_of(dimension, ("is", "gt", (1,) * dimension + (0,)))):
                self.refused(Endless, mesh_of, form)
            for form in (inner(whole), rim(whole), form_of(dimension, lone(*[0] * dimension)),
                         either(whole, form_of(dimension, lone(*[7] * dimension))),
                         either_one(whole, form_of(dimension, lone(*[0] * dimension)))):
                self.refused(NotForm, mesh_of, form, word="rim")

    def test_planes_of_sides(self):
        for form in (RING, HOLLOW):
            planes = {flat_through(side)[0] for side in mesh_of(form)}
            self.assertEqual(sorted(planes), list(form[1]))
            self.assertTrue(all(plane_of(plane) == plane for plane in planes))


if __name__ == "__main__":
    unittest.main()
