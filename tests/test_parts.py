"""Promises [54] and [55]: lots, the parts of sets, and the hollows of sets."""

import unittest
from random import Random

from formed import ALL, EMPTY, MOST, box, is_face, lone, points_of_line, some_forms, some_lots, told_forms, unit
from helping import NO_INTEGERS, NO_TUPLES, SolidCase
from onesolid.cells import cells_of, point_in
from onesolid.cuttings import is_bounded
from onesolid.deeds import any_of, are_apart, both, closed, either, inner, less, rest
from onesolid.errors import Empty, NotForm, NotPoint, TooGreat
from onesolid.forms import form_from, form_of, has_point, need_form
from onesolid.parts import check_lot, hollows_of, lot_parts, part_with, parts_of

DIMENSIONS = (1, 2, 3)
RING = less(form_of(2, box(2, 0, 3)), form_of(2, box(2, 1, 2, ("gt", "lt"))))
HOLLOW = less(form_of(3, box(3, 0, 3)), form_of(3, box(3, 1, 2, ("gt", "lt"))))
# Two squares that touch at a corner.
CORNERED = form_of(2, ("or", box(2), box(2, 1, 2)))
CROSS = ((0, 1, 0), (1, 0, 0))


def parts_anew(cells):
    """The parts of some cells, by joining two of which one is a face of the other, again and again."""
    found = [{signs} for signs in cells]
    for signs in cells:
        for other in cells:
            if is_face(signs, other):
                one = next(part for part in found if signs in part)
                two = next(part for part in found if other in part)
                if one is not two:
                    found.remove(two)
                    one |= two
    return tuple(sorted(tuple(sorted(part)) for part in found))


class Lots(SolidCase):

    def test_lots(self):
        for dimension in DIMENSIONS:
            self.assertIsNone(check_lot(dimension=dimension, planes=(), cells=()))
            self.assertIsNone(check_lot(dimension, (), ((),)))
            for planes, cells in some_lots(dimension, 15, 5, 330):
                self.assertIsNone(check_lot(dimension, planes, cells))
                self.assertIsNone(check_lot(dimension, planes, cells_of(dimension, planes)))
                if len(cells) > 1:
                    self.refused(NotForm, check_lot, dimension, planes, cells[::-1], word="cells")
                    self.refused(NotForm, check_lot, dimension, planes, cells[:1] + cells, word="cells")
                    self.refused(NotForm, check_lot, dimension, planes, list(cells), word="cells")
        # In no sequence, and more than the set needs.
        self.assertIsNone(check_lot(2, ((1, 0, 0), (0, 1, 0), (1, 1, 0)), ((0, 0, 0),)))

    def test_planes(self):
        for value in NO_TUPLES + ((None,), ((),), ((1, 0),), ((1, 0, 0, 0),), ((0, 0, 1),), ((2, 0, 0),), ((-1, 0, 0),),
                                  ((1, 0, 0), (1, 0, 0)), ((1, 0, 0), [0, 1, 0]), ((1, 0, True),), ((1.0, 0, 0),)):
            self.refused(NotForm, check_lot, 2, value, (), word="planes")
            self.refused(NotForm, check_lot, 2, value, None, word="planes")

    def test_too_many(self):
        for dimension in DIMENSIONS:
            planes = tuple(unit(dimension, 0, number) for number in range(MOST[dimension] + 1))
            self.assertIsNone(check_lot(dimension, planes[1:], ()))
            self.refused(TooGreat, check_lot, dimension, planes, None, most=MOST[dimension])
            self.refused(NotForm, check_lot, dimension, planes[1:], None, word="cells")
            self.refused(NotForm, check_lot, dimension, planes + planes[:1], None, word="planes")

    def test_cells(self):
        for value in NO_TUPLES + (((0,),), ((0, 0, 0),), ((0, 2),), (0, 0), ((),), ([0, 0],), ("00",), (None,)):
            self.refused(NotForm, check_lot, 2, CROSS, value, word="cells")
        for value in NO_INTEGERS:
            self.refused(NotForm, check_lot, 2, CROSS, ((0, value),), word="cells")
            self.refused(NotForm, check_lot, 2, CROSS, ((value, 0),), word="cells")
        self.refused(NotForm, check_lot, 2, CROSS, ((1, 1), (0, 0)), word="cells")
        self.refused(NotForm, check_lot, 2, CROSS, ((1, 1), (1, 1)), word="cells")
        # Signs of no cell.
        self.refused(NotForm, check_lot, 1, ((1, 0), (1, 1)), ((1, -1),), word="cells")


class LotParts(SolidCase):

    def test_worked_by_hand(self):
        self.same(lot_parts(dimension=2, planes=CROSS, cells=()), ())
        self.same(lot_parts(2, (), ((),)), (((),),))
        # Two quarters that touch at a corner alone: open ones, and with the corner.
        self.same(lot_parts(2, CROSS, ((-1, -1), (1, 1))), (((-1, -1),), ((1, 1),)))
        self.same(lot_parts(2, CROSS, ((-1, -1), (0, 0), (1, 1))), (((-1, -1), (0, 0), (1, 1)),))
        self.same(lot_parts(2, CROSS, ((-1, 0), (0, 1), (1, -1), (1, 0), (1, 1))),
                  (((-1, 0),), ((0, 1), (1, -1), (1, 0), (1, 1))))
        # Both sides of a plane, without it and with a point of it.
        self.same(lot_parts(1, ((1, 0),), ((-1,), (1,))), (((-1,),), ((1,),)))
        self.same(lot_parts(1, ((1, 0),), ((-1,), (0,), (1,))), (((-1,), (0,), (1,)),))

    def test_told_anew(self):
        for dimension, many in ((1, 25), (2, 25), (3, 12)):
            for planes, cells in some_lots(dimension, many, 5, 331):
                found = lot_parts(dimension, planes, cells)
                self.same(found, parts_anew(cells))
                # More planes do not matter.
                if planes and len(planes) < 5:
                    plane = next(plane for plane in (unit(dimension, 0, 1),
                                                     unit(dimension, 0, 9)) if plane not in planes)
                    finer = tuple(signs for signs in cells_of(dimension, planes + (plane,)) if signs[:-1] in cells)
                    split = lot_parts(dimension, planes + (plane,), finer)
                    self.assertEqual(sorted({tuple(sorted({signs[:-1] for signs in part})) for part in split}),
                                     sorted(found))
                    self.assertEqual(len(split), len(found))


class PartsOf(SolidCase):

    def test_worked_by_hand(self):
        square = form_of(2, box(2))
        for dimension in DIMENSIONS:
            self.same(parts_of(form=EMPTY[dimension]), ())
            self.same(parts_of(ALL[dimension]), (ALL[dimension],))
        self.same(parts_of(CORNERED), (CORNERED,))
        self.same(parts_of(inner(CORNERED)), (form_of(2, box(2, 0, 1, ("gt", "lt"))),
                                              form_of(2, box(2, 1, 2, ("gt", "lt")))))
        self.same(parts_of(either(square, form_of(2, lone(5, 5)))), (square, form_of(2, lone(5, 5))))
        self.same(parts_of(points_of_line((3, -8, 4))),
                  tuple(form_of(1, lone(number)) for number in (-8, 3, 4)))
        self.assertEqual(len(parts_of(rest(RING))), 2)
        self.assertEqual(len(parts_of(rest(HOLLOW))), 2)

    def test_told_anew(self):
        for dimension, many in ((1, 20), (2, 15), (3, 6)):
            for form in some_forms(dimension, many, 4, 332):
                try:
                    found = parts_of(form)
                except TooGreat:
                    continue
                self.same(found, tuple(form_from(dimension, form[1], cells) for cells in parts_anew(form[2])))
                for part in found:
                    need_form(part)
                    self.same(parts_of(part), (part,))
                self.same(any_of(dimension, found), form)
                for number, part in enumerate(found):
                    for other in found[:number]:
                        # Parts of which one touches the closure of the other one would be one part.
                        self.assertTrue(are_apart(closed(part), other))
                        self.assertTrue(are_apart(part, closed(other)))

    def test_too_great(self):
        # A rectangle without the points at which lines cross in it, and beside it what lies on the lines themselves.
        lines = [(number, -1, number * number) for number in range(1, 9)] + [(number, 1, 0) for number in range(9)]
        frame = [(1, 0, -60), (1, 0, 60), (0, 1, -200), (0, 1, 200)]
        planes = tuple(sorted(lines + frame))
        walls = [planes.index(plane) for plane in frame]
        inside, beside = [], []
        for signs in cells_of(2, planes):
            crossed = sum(signs[planes.index(line)] == 0 for line in lines)
            if [signs[place] for place in walls] == [-1, 1, -1, 1] and crossed < 2:
                inside.append(signs)
            if signs[walls[0]] == 1 and crossed > 0:
                beside.append(signs)
        form = form_from(2, planes, tuple(inside + beside))
        self.same(form[1], planes)
        self.refused(TooGreat, parts_of, form, most=24)
        self.refused(TooGreat, part_with, form, (1, 1, 7), most=24)
        self.assertGreater(len(lot_parts(*form)), 1)

    def test_with_a_point(self):
        for dimension, many in ((1, 15), (2, 12), (3, 5)):
            for form in some_forms(dimension, many, 4, 333):
                try:
                    found = parts_of(form)
                except TooGreat:
                    continue
                for signs in cells_of(dimension, form[1])[:40]:
                    point = point_in(dimension, form[1], signs)
                    if signs in form[2]:
                        part = part_with(form=form, point=point)
                        self.same(part, next(own for own in found if has_point(own, point)))
                    else:
                        self.refused(Empty, part_with, form, point)
        self.refuses_what_is_no_point(lambda value: part_with(RING, value))
        self.refuses_what_is_no_point(lambda value: part_with(EMPTY[2], value))
        self.refused(Empty, part_with, RING, (3, 3, 2))
        self.refused(Empty, part_with, EMPTY[2], (3, 3, 2))
        self.refused(NotPoint, part_with, ALL[3], (3, 3, 2), place=-1)
        self.same(part_with(ALL[3], (3, 3, 3, 2)), ALL[3])


class Hollows(SolidCase):

    def test_worked_by_hand(self):
        for dimension in DIMENSIONS:
            self.same(hollows_of(form=EMPTY[dimension]), ())
            self.same(hollows_of(ALL[dimension]), ())
            self.same(hollows_of(form_of(dimension, box(dimension))), ())
            self.same(hollows_of(rest(form_of(dimension, box(dimension)))), (form_of(dimension, box(dimension)),))
        self.same(hollows_of(RING), (form_of(2, box(2, 1, 2, ("gt", "lt"))),))
        self.same(hollows_of(HOLLOW), (form_of(3, box(3, 1, 2, ("gt", "lt"))),))
        self.same(hollows_of(points_of_line((0, 2, 5))),
                  (form_of(1, box(1, 0, 2, ("gt", "lt"))), form_of(1, box(1, 2, 5, ("gt", "lt")))))
        # Lone points and cuts that are missing.
        self.same(hollows_of(rest(form_of(3, lone(1, 2, 3)))), (form_of(3, lone(1, 2, 3)),))
        both_holes = less(RING, form_of(2, lone(0, 0)))
        self.same(hollows_of(less(both_holes, form_of(2, ("and", ("is", "eq", (2, 0, -1)), ("is", "eq", (2, 0, -1)))))),
                  (form_of(2, box(2, 1, 2, ("gt", "lt"))),))

    def test_told_anew(self):
        random = Random(334)
        for dimension, many in ((1, 15), (2, 12), (3, 5)):
            for form in list(some_forms(dimension, many, 5, 335)) + list(told_forms(dimension, many, random.random())):
                try:
                    found = parts_of(rest(form))
                except TooGreat:
                    self.refused(TooGreat, hollows_of, form, most=MOST[dimension])
                    continue
                self.same(hollows_of(form), tuple(part for part in found if is_bounded(part)))
                for hollow in hollows_of(form):
                    self.assertTrue(are_apart(hollow, form))
                    self.same(both(hollow, form), EMPTY[dimension])


if __name__ == "__main__":
    unittest.main()
