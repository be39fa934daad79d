"""Promises [67] and [68]: views, pictures of scenes, and how these are lit."""

import unittest
from fractions import Fraction
from random import Random

from formed import ALL, EMPTY, bounded_forms, box, lone, some_forms, told_forms
from helping import NO_INTEGERS, NO_TUPLES, SolidCase, numbers_at, told
from making import small_points
from onesolid.deeds import either, inner, less, rest
from onesolid.errors import NotForm, NotRow, Unlike
from onesolid.forms import form_of
from onesolid.images import shifted
from onesolid.pictures import lit, need_view, picture
from onesolid.points import moved_by
from onesolid.rays import first_met, is_seen, met_planes, ray_stretches

SQUARE = form_of(2, box(2))
CUBE = form_of(3, box(3))
EYE = ("eye", (0, 0, 1), (1, 2), (0, -1), (0, 0), 5, 1)
FLAT = ("flat", (0, 0, -5, 1), (0, 0, 2), (1, 0, 0), (0, 1, 0), 3, 2)


def with_thing(view, place, value):
    return view[:place] + (value,) + view[place + 1:]


def rays_of(view):
    """Row by row the rays of the dots."""
    word, point, corner, right, down, wide, high = view
    for row in range(high):
        own = []
        for column in range(wide):
            step = tuple(column * a + row * b for a, b in zip(right, down))
            if word == "eye":
                own.append((point, tuple(a + b for a, b in zip(corner, step))))
            else:
                own.append((moved_by(point, step, (1, 1)) if any(step) else point, corner))
        yield own


class Views(SolidCase):

    def test_right_ones(self):
        for dimension, view in ((2, EYE), (3, FLAT), (2, with_thing(EYE, 5, 1)), (2, with_thing(EYE, 6, 24)),
                                (2, with_thing(with_thing(EYE, 2, (1, 30)), 5, 24)),
                                (3, with_thing(FLAT, 3, (0, 0, 0))),
                                (3, with_thing(with_thing(FLAT, 5, 24), 6, 24)), (2, with_thing(EYE, 1, (7, 3, 4)))):
            self.assertIs(need_view(dimension=dimension, value=view), view)

    def test_what_is_wrong_first(self):
        for dimension, view in ((2, EYE), (3, FLAT)):
            for value in NO_TUPLES + ((), view[:6], view + (1,), with_thing(view, 0, "Eye"), with_thing(view, 0, None),
                                      with_thing(view, 0, ""), with_thing(view, 0, ("eye",)), with_thing(view, 0, 0),
                                      list(view)):
                self.refused(NotRow, need_view, dimension, value, place=-1)
            for value in NO_TUPLES + ((), (0,) * dimension, (0,) * dimension + (0,), (2,) * (dimension + 1),
                                      (True,) + (0,) * (dimension - 1) + (1,)):
                self.refused(NotRow, need_view, dimension, with_thing(view, 1, value), place=1)
            for place in (2, 3, 4):
                for value in NO_TUPLES + ((), (1,) * (dimension - 1), (1,) * (dimension + 1)):
                    self.refused(NotRow, need_view, dimension, with_thing(view, place, value), place=place)
                for value in NO_INTEGERS:
                    bent = with_thing(view, place, (value,) + (1,) * (dimension - 1))
                    self.refused(NotRow, need_view, dimension, bent, place=place)
            for place in (5, 6):
                for value in NO_INTEGERS + (0, -1, 25, 10 ** 30):
                    self.refused(NotRow, need_view, dimension, with_thing(view, place, value), place=place)
            for place in range(1, 6):
                bent = view
                for later in range(place, 7):
                    bent = with_thing(bent, later, None)
                self.refused(NotRow, need_view, dimension, bent, place=place)

    def test_dots_without_a_way(self):
        # The first dot, a later one of the row, one of a later row, one just beyond the rim.
        self.refused(NotRow, need_view, 2, with_thing(EYE, 2, (0, 0)), place=7)
        self.refused(NotRow, need_view, 2, with_thing(EYE, 2, (0, 4)), place=7)
        self.assertIsNotNone(need_view(2, with_thing(EYE, 2, (0, 5))))
        deep = ("eye", (0, 0, 1), (-2, -3), (1, 0), (0, 1), 3, 4)
        self.refused(NotRow, need_view, 2, deep, place=7)
        self.assertIsNotNone(need_view(2, with_thing(deep, 6, 3)))
        self.assertIsNotNone(need_view(2, with_thing(deep, 5, 2)))
        self.refused(NotRow, need_view, 3, with_thing(FLAT, 2, (0, 0, 0)), place=7)
        self.assertIsNotNone(need_view(3, with_thing(with_thing(FLAT, 3, (0, 0, 0)), 4, (0, 0, 0))))
        # Of "flat" only the way itself counts.
        self.assertIsNotNone(need_view(2, ("flat", (0, 0, 1), (1, 0), (-1, 0), (0, 0), 3, 3)))


class Picture(SolidCase):

    def test_worked_by_hand(self):
        wall = form_of(2, ("is", "ge", (1, 0, -3)))
        self.same(picture(scene=(wall,), view=EYE), (((0, "met", (3, 1)),) * 5,))
        self.same(picture((inner(wall),), EYE), (((0, "near", (3, 1)),) * 5,))
        self.same(picture((EMPTY[2],), EYE), ((None,) * 5,))
        self.same(picture((ALL[2],), EYE), (((0, "met", (0, 1)),) * 5,))
        # Ways (1, 2), (1, 1), (1, 0), (1, -1), (1, -2): a square ahead of a wall.
        square = shifted(SQUARE, (1, 0, 1))
        self.same(picture((wall, square), EYE),
                  ((((0, "met", (3, 1)), (1, "met", (1, 1)), (1, "met", (1, 1)), (0, "met", (3, 1)),
                     (0, "met", (3, 1))),)))
        # Rows from above; a way counts with its common divisor.
        self.same(picture((CUBE,), FLAT), (((0, "met", (5, 2)), (0, "met", (5, 2)), None),) * 2)
        self.same(picture((CUBE,), with_thing(FLAT, 6, 3))[2], (None,) * 3)
        self.same(picture((CUBE,), with_thing(FLAT, 4, (0, 2, 0)))[1], (None,) * 3)

    def test_equal_numbers(self):
        wall = form_of(2, ("is", "ge", (1, 0, -3)))
        view = with_thing(EYE, 5, 1)
        for scene, wanted in (((wall, wall), (0, "met")), ((inner(wall), wall), (1, "met")),
                              ((wall, inner(wall)), (0, "met")),
                              ((inner(wall), inner(wall)), (0, "near")),
                              ((EMPTY[2], inner(wall), wall, wall), (2, "met")),
                              ((shifted(wall, (1, 0, 1)), inner(wall)), (1, "near")),
                              ((wall, shifted(wall, (-1, 0, 2))), (1, "met"))):
            self.same(picture(scene, view)[0][0][:2], wanted)

    def test_told_anew(self):
        random = Random(420)
        for dimension, many in ((2, 40), (3, 25)):
            forms = list(some_forms(dimension, 3 * many, 4, 421))
            for _ in range(many):
                scene = tuple(random.choice(forms) for _ in range(random.randint(1, 6)))
                view = self.some_view(random, dimension)
                found = picture(scene, view)
                self.assertEqual(len(found), view[6])
                for row, rays in zip(found, rays_of(view)):
                    self.assertEqual(len(row), view[5])
                    for dot, (point, way) in zip(row, rays):
                        met = [(told(hit[1]), hit[0], number, hit) for number, hit in
                               enumerate(first_met(form, point, way) for form in scene) if hit is not None]
                        if not met:
                            self.assertIsNone(dot)
                        else:
                            _, word, number, hit = min(met)
                            self.same(dot, (number, word, hit[1]))

    def some_view(self, random, dimension):
        while True:
            steps = [tuple(random.randint(-3, 3) for _ in range(dimension)) for _ in range(3)]
            view = (random.choice(("eye", "flat")), small_points(dimension, 1, random.random())[0], steps[0], steps[1],
                    steps[2], random.randint(1, 4), random.randint(1, 4))
            try:
                return need_view(dimension, view)
            except NotRow:
                pass

    def test_the_same_for_formulas_of_the_same_set(self):
        one = form_of(2, ("and", box(2), ("is", "le", (1, 1, -3))))
        self.same(picture((one,), EYE), picture((SQUARE,), EYE))

    def test_refusals(self):
        for call in (picture, lambda scene, view: lit(scene, view, None, 1)):
            self.refused(Unlike, call, (SQUARE, CUBE), None)
            self.refused(Unlike, call, (CUBE, SQUARE), EYE)
            self.refused(Unlike, call, (ALL[1],), EYE)
            self.refused(Unlike, call, (ALL[1], SQUARE), EYE)
            self.refused(Unlike, call, (), EYE)
            self.refused(NotRow, call, (SQUARE,), None, place=-1)
            self.refused(NotRow, call, (SQUARE,), FLAT, place=1)
            self.refused(NotRow, call, (CUBE,), EYE, place=1)
            self.refused(NotRow, call, (SQUARE,), with_thing(EYE, 2, (0, 4)), place=7)


class Lit(SolidCase):

    def light(self, lights, steps=100, scene=None, view=None):
        """How much light the only dot has, straight down on the plane y = 0 at the origin."""
        ground = form_of(2, ("is", "le", (0, 1, 0)))
        view = view or ("eye", (0, 4, 1), (0, -2), (0, 0), (0, 0), 1, 1)
        found = lit(scene=scene or (ground,), view=view, lights=lights, steps=steps)
        self.assertEqual((len(found), len(found[0])), (1, 1))
        return found[0][0]

    def test_worked_by_hand(self):
        self.same(self.light(()), 0)
        self.same(self.light((("far", (0, 1)),)), 100)
        self.same(self.light((("far", (0, 7)),), 255), 255)
        self.same(self.light((("far", (1, 1)),)), 50)
        self.same(self.light((("far", (3, 4)),)), 64)
        self.same(self.light((("far", (-2, 1)),)), 20)
        self.same(self.light((("far", (1, 0)),)), 0)
        self.same(self.light((("far", (0, -1)),)), 0)
        # Points of light: how far does not count, only from where; from the ground, from within it, at the point.
        self.same(self.light((("point", (3, 4, 1)),)), 64)
        self.same(self.light((("point", (3, 4, 100)),)), 64)
        self.same(self.light((("point", (0, 0, 1)),)), 0)
        self.same(self.light((("point", (1, 0, 1)),)), 0)
        self.same(self.light((("point", (0, -1, 1)),)), 0)
        # Several add up, at most all steps; a part of a step is left out.
        self.same(self.light((("far", (1, 1)), ("far", (-2, 1)))), 70)
        self.same(self.light((("far", (1, 1)), ("far", (-2, 1)), ("far", (0, 1)), ("far", (1, 2)))), 100)
        self.same(self.light((("far", (1, 1)),), 255), 127)
        self.same(self.light((("far", (1, 1)),), 1), 0)
        self.same(self.light((("far", (1, 1)), ("far", (-1, 1))), 1), 1)
        self.same(self.light((("far", (1, 2)),) * 3, 3), 3)
        self.same(self.light((("far", (2, 1)),) * 3, 3), 1)

    def test_shaded(self):
        ground = form_of(2, ("is", "le", (0, 1, 0)))
        roof = form_of(2, ("and", ("is", "ge", (0, 1, -2)), ("is", "le", (0, 1, -3)), ("is", "ge", (1, 0, -1))))
        lights = (("far", (1, 1)),)
        self.same(self.light(lights, 100, (ground, roof)), 0)
        self.same(self.light((("far", (-1, 1)),), 100, (ground, roof)), 50)
        # A light ahead of the roof, at it, within it, behind it.
        for place, wanted in (((1, 1, 1), 50), ((2, 2, 1), 50), ((5, 5, 2), 0), ((9, 9, 1), 0)):
            self.same(self.light((("point", place),), 100, (ground, roof)), wanted)
        # Its open side does not shade, its rim does; a lone point does.
        self.same(self.light((("far", (1, 3)),), 100, (ground, roof)), 0)
        self.same(self.light((("far", (1, 3)),), 100, (ground, inner(roof))), 90)
        self.same(self.light(lights, 100, (ground, form_of(2, lone(5, 5)))), 0)
        self.same(self.light((("point", (5, 5, 1)),), 100, (ground, form_of(2, lone(5, 5)))), 50)
        self.same(self.light((("point", (4, 4, 1)),), 100, (ground, form_of(2, lone(5, 5)))), 50)

    def test_from_within(self):
        # The ray begins in the set, where it meets no plane: no light.
        self.same(self.light((("far", (0, 1)),), 100, (ALL[2],)), 0)
        self.same(self.light((("far", (0, 1)),), 100, (form_of(2, ("is", "le", (0, 1, -9))),)), 0)
        # It begins on the rim.
        view = ("eye", (0, 0, 1), (0, -2), (0, 0), (0, 0), 1, 1)
        self.same(self.light((("far", (0, 1)),), 100, None, view), 100)
        self.same(lit((EMPTY[2],), view, (("far", (0, 1)),), 9), ((None,),))

    def test_an_edge_is_lit_by_its_first_plane(self):
        view = ("eye", (-1, 2, 1), (1, -1), (0, 0), (0, 0), 1, 1)
        quarter = form_of(2, ("and", ("is", "ge", (1, 0, 0)), ("is", "le", (0, 1, -1))))
        self.same(quarter[1], ((0, 1, -1), (1, 0, 0)))
        self.same(met_planes(quarter, (-1, 2, 1), (1, -1)), (0, 1))
        self.same(self.light((("far", (0, 1)),), 100, (quarter,), view), 100)
        self.same(self.light((("far", (-1, 0)),), 100, (quarter,), view), 0)
        self.same(self.light((("far", (-1, 1)),), 100, (quarter,), view), 50)

    def test_told_anew(self):
        random = Random(422)
        lit_dots = 0
        for dimension, many in ((2, 60), (3, 40)):
            forms = list(bounded_forms(dimension, 10, 423)) + list(told_forms(dimension, 10, 424, 3))
            for _ in range(many):
                scene = tuple(random.choice(forms) for _ in range(random.randint(1, 3)))
                view = Picture.some_view(self, random, dimension)
                lights = tuple(self.some_light(random, dimension) for _ in range(random.randint(0, 3)))
                # A light from where the view is.
                lights += (("far", tuple(-step for step in next(rays_of(view))[0][1])),)
                steps = random.choice((1, 7, 255))
                dots = picture(scene, view)
                for row, wanted, rays in zip(lit(scene, view, lights, steps), dots, rays_of(view)):
                    for light, dot, (point, way) in zip(row, wanted, rays):
                        if dot is None:
                            self.assertIsNone(light)
                        else:
                            self.same(light, self.light_anew(scene, dot, point, way, lights, steps))
                            lit_dots += light > 0
        self.assertGreater(lit_dots, 20)

    def some_light(self, random, dimension):
        if random.random() < 0.5:
            return ("point", small_points(dimension, 1, random.random())[0])
        way = tuple(random.randint(-2, 2) for _ in range(dimension))
        return ("far", way if any(way) else (1,) * dimension)

    def light_anew(self, scene, dot, point, way, lights, steps):
        number, _, _ = dot
        form = scene[number]
        place = first_met(form, point, way)[2]
        through = met_planes(form, point, way)
        if not through:
            return 0
        normal = form[1][through[0]][:-1]
        if sum(a * b for a, b in zip(normal, way)) > 0:
            normal = [-a for a in normal]
        total = Fraction(0)
        for word, source in lights:
            if word == "point":
                toward = [a - b for a, b in zip(numbers_at(source), numbers_at(place))]
                shaded = not all(is_seen(own, place, source) for own in scene)
            else:
                toward = [Fraction(a) for a in source]
                shaded = any(entry[2] != (0, 1) for own in scene for entry in ray_stretches(own, place, source))
            height = sum(a * b for a, b in zip(normal, toward))
            if height > 0 and not shaded:
                total += height ** 2 / sum(a * a for a in normal) / sum(a * a for a in toward)
        return min(steps, int(steps * total))

    def test_lights(self):
        view = EYE
        for value in NO_TUPLES + ((("far", (1, 0)),) * 5, (None,), ((),), (("far",),), (("far", (0, 0)),),
                                  (("far", (1,)),),
                                  (("far", (1, 0, 0)),), (("far", (1, True)),), (("far", [1, 0]),), (("near", (1, 0)),),
                                  (("far", (1, 0), 1),), (["far", (1, 0)],), (("point", (1, 0)),),
                                  (("point", (1, 0, 0)),),
                                  (("point", (2, 0, 2)),), (("point", None),), ("far", (1, 0)), (("far", None),),
                                  (("point", (0, 0, 1)), ("point", (0, 1, False)))):
            self.refused(NotForm, lit, (SQUARE,), view, value, 9, word="light")
        self.refused(NotRow, lit, (SQUARE,), None, None, 9, place=-1)
        self.refused(Unlike, lit, (SQUARE, CUBE), None, None, 9)
        self.assertEqual(len(lit((SQUARE,), view, (("far", (2, 0)),) * 4, 9)[0]), 5)

    def test_hollow_scenes(self):
        # From within a hollow: its wall is lit by a light in the hollow, not by one outside.
        hollow = less(form_of(2, box(2, -5, 5)), form_of(2, box(2, -1, 1, ("gt", "lt"))))
        view = ("eye", (0, 0, 1), (1, 0), (0, 0), (0, 0), 1, 1)
        self.same(lit((hollow,), view, (("point", (0, 0, 1)),), 10), ((10,),))
        self.same(lit((hollow,), view, (("point", (-9, 0, 1)),), 10), ((0,),))
        self.same(lit((hollow,), view, (("far", (-1, 0)),), 10), ((0,),))
        self.same(lit((rest(hollow), either(hollow, hollow)), view, (("far", (-1, 0)),), 10), ((0,),))


if __name__ == "__main__":
    unittest.main()
