"""Promise [33]: planes that cut out flats, the flats of a set, and its walls."""

import unittest
from random import Random

from arranged import cells_anew, some_planes
from formed import ALL, EMPTY, box, cut_anew, flats_anew, form_anew, lone, some_forms, some_lots
from helping import BIG, SolidCase
from onesolid.deeds import rest
from onesolid.errors import TooGreat
from onesolid.flats import check_flat, flat_of
from onesolid.forms import form_from, form_of
from onesolid.needed import cut_out, flats_of, is_cut_out, walls_of

DIMENSIONS = (1, 2, 3)


def some_flats(random, dimension):
    """Some flats of small planes, in any turn, some of them within one another."""
    planes = some_planes(random, dimension, dimension + 2)
    found = [()] if random.random() < 0.3 else []
    for _ in range(random.randint(0, 6)):
        flat = flat_of(dimension, random.sample(planes, random.randint(1, dimension)))
        if flat is not None:
            found.append(flat)
    return tuple(found)


class CutOut(SolidCase):

    def test_nothing_to_cut_out(self):
        for dimension in DIMENSIONS:
            self.same(cut_out(dimension, ()), ())
            self.same(cut_out(dimension, ((),)), ())
            self.same(cut_out(dimension, ((), ())), ())

    def test_worked_by_hand(self):
        self.same(cut_out(1, (((2, 1),), ((1, 0),))), ((1, 0), (2, 1)))
        self.same(cut_out(2, (((1, 0, -2), (0, 1, 5)),)), ((0, 1, 5), (1, 0, -2)))
        # A line through the point spares one of its rows; two of them spare both.
        self.same(cut_out(2, (((1, 0, 0), (0, 1, 0)), ((1, 1, 0),))), ((1, 0, 0), (1, 1, 0)))
        self.same(cut_out(2, (((1, 0, 0), (0, 1, 0)), ((1, 1, 0),), ((1, -1, 0),))), ((1, -1, 0), (1, 1, 0)))
        # The plane of the first row is there, so the second one alone is taken.
        self.same(cut_out(dimension=2, flats=(((1, 0, 0), (0, 1, 0)), ((1, 0, 0),))), ((0, 1, 0), (1, 0, 0)))
        # The point of smaller rows comes first, and what is taken for it serves the other one.
        self.same(cut_out(2, (((1, 0, 0), (0, 1, 3)), ((1, 0, 0), (0, 1, 0)))), ((0, 1, 0), (0, 1, 3), (1, 0, 0)))
        self.same(cut_out(3, (((1, 0, 0, 0), (0, 1, 0, 0)), ((1, 0, 0, 0), (0, 0, 1, 0)))),
                  ((0, 0, 1, 0), (0, 1, 0, 0), (1, 0, 0, 0)))
        # Through the line x = y = 0 the plane x = y goes, and one row more is needed.
        self.same(cut_out(3, (((1, -1, 0, 0),), ((1, 0, 0, 0), (0, 1, 0, 0)))), ((1, -1, 0, 0), (1, 0, 0, 0)))

    def test_told_anew_in_any_turn(self):
        random = Random(60)
        for dimension in DIMENSIONS:
            for _ in range(60):
                flats = some_flats(random, dimension)
                found = cut_out(dimension, flats)
                self.same(found, cut_anew(flats))
                for flat in flats:
                    self.assertIs(is_cut_out(dimension, found, flat), True)
                turned = list(flats) + [flat for flat in flats if random.random() < 0.5]
                random.shuffle(turned)
                self.same(cut_out(dimension, tuple(turned)), found)

    def test_more_planes_than_may_be_looked_at(self):
        flats = tuple(((1, 0, k), (0, 1, k * k)) for k in range(30))
        self.assertEqual(len(cut_out(2, flats)), 60)
        self.assertEqual(len(cut_out(1, tuple(((1, k),) for k in range(100)))), 100)


class IsCutOut(SolidCase):

    def test_worked_by_hand(self):
        lines = ((1, 0, 0), (1, 1, 0), (1, 0, 5))
        self.same(is_cut_out(2, lines, ((1, 0, 0), (0, 1, 0))), True)
        self.same(is_cut_out(2, lines, ((1, 0, 5),)), True)
        self.same(is_cut_out(dimension=2, planes=lines, flat=()), True)
        self.same(is_cut_out(2, lines, ((1, 0, 5), (0, 1, 0))), False)
        self.same(is_cut_out(2, lines, ((1, 0, 5), (0, 1, -5))), True)
        self.same(is_cut_out(2, lines, ((0, 1, 0),)), False)
        self.same(is_cut_out(2, (), ()), True)
        self.same(is_cut_out(2, (), ((0, 1, 0),)), False)
        self.same(is_cut_out(1, ((BIG, -1),), ((BIG, -1),)), True)
        self.same(is_cut_out(3, ((1, 0, 0, 0), (1, 1, 0, 0), (1, 2, 0, 0)), ((1, 0, 0, 0), (0, 1, 0, 0))), True)
        self.same(is_cut_out(3, ((1, 0, 0, 0), (1, 1, 0, 0)), ((1, 0, 0, 0), (0, 1, 0, 0), (0, 0, 1, 0))), False)


class FlatsOfSets(SolidCase):

    def test_worked_by_hand(self):
        for dimension in DIMENSIONS:
            for form in (EMPTY[dimension], ALL[dimension]):
                self.same(flats_of(form), ())
                self.same(walls_of(form), ())
        point = form_of(2, lone(3, -1))
        self.same(flats_of(point), (((1, 0, -3), (0, 1, 1)),))
        self.same(walls_of(point), ())
        square = form_of(2, box(2))
        self.same(walls_of(square), ((0, 1, -1), (0, 1, 0), (1, 0, -1), (1, 0, 0)))
        self.same(flats_of(form=square),
                  (((0, 1, -1),), ((0, 1, 0),), ((1, 0, -1),), ((1, 0, 0),), ((1, 0, -1), (0, 1, -1)),
                   ((1, 0, -1), (0, 1, 0)), ((1, 0, 0), (0, 1, -1)), ((1, 0, 0), (0, 1, 0))))
        # A half plane without the half of its rim: the point where this ends is a flat.
        half = form_of(2, ("or", ("is", "gt", (0, 1, 0)), ("and", ("is", "eq", (0, 1, 0)), ("is", "ge", (1, 0, 0)))))
        self.same(flats_of(half), (((0, 1, 0),), ((1, 0, 0), (0, 1, 0))))
        self.same(walls_of(form=half), ((0, 1, 0),))
        self.same(half[1], ((0, 1, 0), (1, 0, 0)))

    def test_told_anew(self):
        for dimension in DIMENSIONS:
            for planes, inside in some_lots(dimension, 30, 4, 61):
                cells = cells_anew(dimension, planes)
                wanted = flats_anew(planes, cells, inside)
                try:
                    form = form_from(dimension, planes, inside)
                except TooGreat:
                    continue
                self.same(flats_of(form), wanted)
                self.same(walls_of(form), tuple(sorted(flat[0] for flat in wanted if len(flat) == 1)))
                self.same(form[1], cut_out(dimension, wanted))
                self.same(form, form_anew(dimension, planes, inside))
                for flat in wanted:
                    check_flat(dimension, flat)

    def test_facts(self):
        for dimension in DIMENSIONS:
            for form in some_forms(dimension, 25, 6, 62):
                self.same(flats_of(rest(form)), flats_of(form))
                self.assertTrue(set(walls_of(form)) <= set(form[1]))
                for flat in flats_of(form):
                    self.assertTrue(is_cut_out(dimension, form[1], flat))


if __name__ == "__main__":
    unittest.main()
