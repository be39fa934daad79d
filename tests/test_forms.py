"""Promises [35], [36] and [37]: forms of formulas and of cells, and what is read off them."""

import unittest
from random import Random

from arranged import some_planes
from formed import ALL, EMPTY, MOST, box, form_anew, lone, points_of_line, some_forms, some_lots, told_forms, unit
from helping import BIG, NO_INTEGERS, NO_TUPLES, SolidCase, numbers_at
from making import crossing_lines, small_formulas, small_points
from onesolid.cells import cell_dimension, cells_of, point_in
from onesolid.deeds import rest
from onesolid.errors import Empty, NotForm, NotFormula, TooGreat
from onesolid.formulas import words_of
from onesolid.forms import (a_point, cell_at, dimension_of, form_from, form_of, formula_of, has_point, is_all, is_empty,
                            need_form)
from onesolid.holding import holds
from onesolid.plainer import plain
from onesolid.points import check_point
from onesolid.rows import signs_at
from onesolid.texts import formula_text, read_formula

DIMENSIONS = (1, 2, 3)
WORDS = ("lt", "le", "eq", "ne", "ge", "gt")
KINDS = ("not", "and", "or", "some", "every", "back", "and", "or")


def many_points(dimension, many):
    """A formula of so many points of the line, or planes that stand side by side."""
    return ("or",) + tuple(("is", "eq", unit(dimension, 0, number)) for number in range(many))


def crossing_spaces(many):
    """"and" of rows of dimension 4 of which no two cross above the same plane of space."""
    return ("and",) + tuple(("is", "lt", (k, k ** 2, k ** 3, -1, k ** 4)) for k in range(many))


class FormOf(SolidCase):

    def test_is(self):
        self.same(form_of(1, ("is", "lt", (2, -4))), (1, ((1, -2),), ((-1,),)))
        self.same(form_of(1, ("is", "le", (2, -4))), (1, ((1, -2),), ((-1,), (0,))))
        self.same(form_of(1, ("is", "eq", (2, -4))), (1, ((1, -2),), ((0,),)))
        self.same(form_of(1, ("is", "ne", (2, -4))), (1, ((1, -2),), ((-1,), (1,))))
        self.same(form_of(1, ("is", "ge", (2, -4))), (1, ((1, -2),), ((0,), (1,))))
        self.same(form_of(dimension=1, formula=("is", "gt", (2, -4))), (1, ((1, -2),), ((1,),)))
        self.same(form_of(2, ("is", "gt", (-3, 0, 1))), (2, ((3, 0, -1),), ((-1,),)))
        for dimension in DIMENSIONS:
            for last, wanted in ((-1, ("lt", "le", "ne")), (0, ("le", "eq", "ge")), (1, ("ne", "ge", "gt"))):
                for word in WORDS:
                    found = form_of(dimension, ("is", word, (0,) * dimension + (last,)))
                    self.same(found, ALL[dimension] if word in wanted else EMPTY[dimension])

    def test_no_parts(self):
        for dimension in DIMENSIONS:
            self.same(form_of(dimension, ("and",)), ALL[dimension])
            self.same(form_of(dimension, ("or",)), EMPTY[dimension])
            self.same(form_of(dimension, ("not", ("or",))), ALL[dimension])
            self.same(form_of(dimension, ("some", ("and",))), ALL[dimension])
            self.same(form_of(dimension, ("every", ("or",))), EMPTY[dimension])

    def test_worked_by_hand(self):
        # A point, whatever lines tell it.
        for formula in (lone(0, 0), ("and", ("is", "eq", (1, 1, 0)), ("is", "eq", (1, -1, 0))),
                        ("and", ("is", "ge", (1, 0, 0)), ("is", "le", (1, 2, 0)), ("is", "ge", (-3, 5, 0)))):
            self.same(form_of(2, formula), (2, ((0, 1, 0), (1, 0, 0)), ((0, 0),)))
        # Planes at which nothing changes are not among those of the form.
        self.same(form_of(1, ("or", ("is", "le", (1, 0)), ("is", "ge", (1, 0)))), ALL[1])
        self.same(form_of(1, ("or", ("is", "lt", (1, 0)), ("is", "gt", (1, -1)), ("is", "le", (2, -1)))),
                  (1, ((1, -1), (2, -1)), ((-1, -1), (-1, 0), (1, 1))))
        self.same(form_of(2, ("and", box(2), ("is", "le", (1, 1, -9)))), form_of(2, box(2)))

    def test_some_and_every(self):
        above = ("and", ("is", "lt", (1, -1, 0)), ("is", "gt", (2, -1, 0)))
        self.same(form_of(1, ("some", above)), (1, ((1, 0),), ((1,),)))
        self.same(form_of(1, ("every", above)), EMPTY[1])
        self.same(form_of(1, ("every", ("not", above))), (1, ((1, 0),), ((-1,), (0,))))
        self.same(form_of(2, ("some", box(3))), form_of(2, box(2)))
        self.same(form_of(1, ("some", ("some", box(3)))), form_of(1, box(1)))
        self.same(form_of(2, ("every", ("or", ("is", "ne", (0, 0, 1, 0)), ("is", "eq", (1, 0, 0, 0))))),
                  form_of(2, ("is", "eq", (1, 0, 0))))
        self.same(form_of(3, ("some", box(4))), form_of(3, box(3)))
        self.same(form_of(3, ("every", ("not", box(4)))), form_of(3, ("not", box(3))))
        self.same(form_of(3, ("some", ("is", "eq", (0, 0, 0, 1, 5)))), ALL[3])

    def test_back(self):
        # Rows of noughts, and rows that are multiples of one another.
        self.same(form_of(2, ("back", ((0, 0, 0),), ("is", "gt", (1, 1)))), ALL[2])
        self.same(form_of(2, ("back", ((0, 0, 5), (0, 0, 5)), box(2))), EMPTY[2])
        self.same(form_of(2, ("back", ((1, 0, 0), (0, 0, 0)), box(2))), (2, ((1, 0, -1), (1, 0, 0)),
                                                                       ((-1, 0), (-1, 1), (0, 1))))
        self.same(form_of(1, ("back", ((1, 0), (-2, 0), (3, 1)), box(3, -4, 4))),
                  form_of(1, ("and", ("is", "ge", (3, 5)), ("is", "le", (1, -1)))))
        self.same(form_of(1, ("back", ((2, 1),), points(3))), form_of(1, ("is", "eq", (1, -1))))
        # The third row is the sum of the others.
        self.same(form_of(2, ("back", ((1, 0, 0), (0, 1, 0), (1, 1, 0)), box(3))),
                  form_of(2, ("and", box(2), ("is", "le", (1, 1, -1)))))
        # A part of dimension 4.
        self.same(form_of(1, ("back", ((1, 0), (1, 1), (2, 0), (0, 0)), box(4, -3, 3))),
                  form_of(1, ("and", ("is", "ge", (2, 3)), ("is", "le", (2, -3)))))
        self.same(form_of(3, ("back", ((1, 0, 0, 0), (0, 1, 0, 0), (0, 0, 1, 0), (1, 1, 1, 0)), box(4))),
                  form_of(3, ("and", box(3), ("is", "le", (1, 1, 1, -1)))))
        self.same(form_of(2, ("back", ((0, 0, 0),) * 4, box(4))), ALL[2])

    def test_same_points_as_the_formula(self):
        for dimension, many in ((1, 150), (2, 120), (3, 60)):
            for formula in small_formulas(dimension, many, 4, KINDS, 80 + dimension):
                try:
                    form = form_of(dimension, formula)
                except TooGreat:
                    continue
                self.assertIs(need_form(form), form)
                points_of_cells = [point_in(dimension, form[1], signs) for signs in cells_of(dimension, form[1])]
                for point in small_points(dimension, 15, 81) + points_of_cells[:40]:
                    self.assertIs(has_point(form, point), holds(dimension, formula, point))

    def test_formulas_of_one_set_have_one_form(self):
        for dimension in (1, 2):
            for formula in small_formulas(dimension, 80, 3, KINDS, 90 + dimension):
                try:
                    form = form_of(dimension, formula)
                    self.same(form_of(dimension, ("not", ("not", formula))), form)
                    self.same(form_of(dimension, ("and", ("and",), formula, formula)), form)
                    self.same(form_of(dimension, ("not", formula)), rest(form))
                    self.same(form_of(dimension, plain(dimension, formula)), form)
                except (TooGreat, NotFormula):
                    pass

    def test_just_as_many_planes_as_may_be(self):
        for dimension, most in MOST.items():
            self.assertEqual(len(form_of(dimension, many_points(dimension, most))[1]), most)
            self.refused(TooGreat, form_of, dimension, many_points(dimension, most + 1), most=most)
            # Also where the planes are not needed.
            useless = ("and", ("or",), many_points(dimension, most + 1))
            self.refused(TooGreat, form_of, dimension, useless, most=most)
            self.same(form_of(dimension, ("or", ("and",), many_points(dimension, most))), ALL[dimension])
            halves = ("and", many_points(dimension, most), ("is", "lt", unit(dimension, dimension - 1, 7777)))
            self.refused(TooGreat, form_of, dimension, halves, most=most)

    def test_the_planes_of_the_form_may_be_too_many(self):
        # Five lines, and lone points in which no two of them meet: each of these would need two planes more.
        lines = ((1, 1, 0), (1, 2, 1), (1, 3, 4), (1, 4, 9), (1, 5, 16), (1, 6, 25), (2, 1, 36))
        meeting = [("and", ("is", "eq", one), ("is", "eq", other))
                   for place, one in enumerate(lines) for other in lines[:place]]
        self.refused(TooGreat, form_of, 2, ("or",) + tuple(meeting), most=24)
        self.assertEqual(len(form_of(2, ("or",) + tuple(meeting[:3]))[1]), 6)

    def test_the_first_part_that_is_too_great(self):
        line = many_points(1, 61)
        flat = ("some", many_points(2, 25))
        space = ("some", ("some", many_points(3, 17)))
        for parts, most in (((line, flat), 60), ((flat, line), 24), ((("and",), space, flat), 16),
                            ((flat, space, line), 24), ((("not", space), line), 16)):
            self.refused(TooGreat, form_of, 1, ("and",) + parts, most=most)
        self.refused(TooGreat, form_of, 1, ("or", ("back", ((1, 0), (0, 1)), many_points(2, 25)), line), most=24)
        # What a "some" looks at is in the dimension of its set: 12 lines cross above 66 points, 11 above 55.
        lines = [("is", "eq", row) for _, _, row in crossing_lines(12)[1:]]
        self.refused(TooGreat, form_of, 1, ("some", ("or",) + tuple(lines)), most=60)
        self.refused(TooGreat, form_of, 1, ("every", ("or",) + tuple(lines)), most=60)
        self.same(form_of(1, ("some", ("or",) + tuple(lines[:11]))), ALL[1])
        self.same(form_of(1, ("every", ("or",) + tuple(lines[:11]))), EMPTY[1])

    def test_parts_of_dimension_4(self):
        self.same(form_of(3, ("some", crossing_spaces(6)))[0], 3)
        # Seven planes cross above 21, and 21 of them above 210.
        self.refused(TooGreat, form_of, 3, ("some", crossing_spaces(7)), most=16)
        self.refused(TooGreat, form_of, 3, ("every", ("not", crossing_spaces(7))), most=16)
        self.refused(TooGreat, form_of, 3, ("every", crossing_spaces(20)), most=16)
        self.refused(TooGreat, form_of, 3, ("some", crossing_spaces(21)), most=200)
        self.refused(TooGreat, form_of, 3, ("and", ("some", crossing_spaces(21)), many_points(3, 17)), most=200)
        self.refused(TooGreat, form_of, 3, ("and", many_points(3, 17), ("some", crossing_spaces(21))), most=16)
        table = ((1, 0, 0), (0, 1, 0), (1, 1, 0), (1, -1, 0))
        self.refused(TooGreat, form_of, 2, ("back", table, many_points(4, 25)), most=24)
        self.assertEqual(len(form_of(2, ("back", table, many_points(4, 24)))[1]), 24)
        # Planes that become one are looked at once.
        self.assertEqual(len(form_of(2, ("back", ((0, 0, 1),) * 3 + ((1, 0, 0),), many_points(4, 30)))[1]), 0)

    def test_no_formula(self):
        for value in NO_TUPLES + ((), ("is",), ("if", (1, 2)), ("not", ("and",), ("and",))):
            self.refused(NotFormula, form_of, 1, value, path=())
        self.refused(NotFormula, form_of, 1, ("is", "lt", (1, 2, 3)), path=(2,))
        self.refused(NotFormula, form_of, 1, ("and", ("and",), ("is", "lt", (1, True))), path=(2, 2, 1))
        self.refused(NotFormula, form_of, 2, ("is", "lt", (1, 1, 10 ** 6 + 1)), path=(2, 2))
        self.refused(NotFormula, form_of, 1, ("and",) + (("and",),) * 200, path=())
        # What is wrong with the formula comes ahead of planes that are too many.
        self.refused(NotFormula, form_of, 1, ("and", many_points(1, 61), ("or", None)), path=(2, 1))


def points(number):
    """A formula of one point of the line."""
    return ("is", "eq", (1, -number))


class FormFrom(SolidCase):

    def test_worked_by_hand(self):
        self.same(form_from(2, ((1, 1, -1), (1, 0, 0), (0, 1, 0)), ((-1, 1, 1),)),
                  (2, ((0, 1, 0), (1, 0, 0), (1, 1, -1)), ((1, 1, -1),)))
        self.same(form_from(2, ((1, 1, 0), (1, -1, 0)), ((0, 0),)), (2, ((0, 1, 0), (1, 0, 0)), ((0, 0),)))
        self.same(form_from(dimension=1, planes=((1, 0),), cells=((1,), (-1,), (0,))), ALL[1])
        self.same(form_from(1, ((1, 0), (1, 5)), ((1, 1), (0, 1))), (1, ((1, 0),), ((0,), (1,))))
        for dimension in DIMENSIONS:
            self.same(form_from(dimension, (), ()), EMPTY[dimension])
            self.same(form_from(dimension, (), ((),)), ALL[dimension])

    def test_told_anew(self):
        random = Random(91)
        for dimension in DIMENSIONS:
            for planes, inside in some_lots(dimension, 25, 4, 92):
                try:
                    form = form_from(dimension, planes, inside)
                except TooGreat:
                    continue
                self.same(form, form_anew(dimension, planes, inside))
                # In another turn of planes and cells.
                turn = list(range(len(planes)))
                random.shuffle(turn)
                cells = [tuple(signs[place] for place in turn) for signs in inside]
                random.shuffle(cells)
                self.same(form_from(dimension, tuple(planes[place] for place in turn), tuple(cells)), form)

    def test_as_many_planes_as_may_be(self):
        random = Random(93)
        for dimension, most in MOST.items():
            planes = tuple((1,) + (0,) * (dimension - 1) + (k,) for k in range(most))
            cells = cells_of(dimension, planes)
            self.same(form_from(dimension, planes, cells), ALL[dimension])
            inside = tuple(signs for signs in cells if 0 in signs)
            self.assertEqual(form_from(dimension, planes, inside)[1], tuple(sorted(planes)))
            self.refused(TooGreat, form_from, dimension, planes + ((1,) + (0,) * (dimension - 1) + (-1,),), None,
                         most=most)
        planes = some_planes(random, 3, 16)
        cells = cells_of(3, planes)
        inside = tuple(signs for signs in cells if random.random() < 0.5)
        form = form_from(3, planes, inside)
        self.assertIs(need_form(form), form)
        self.same(form_from(3, planes, tuple(signs for signs in cells if signs not in set(inside))), rest(form))
        # Just the corners: more planes than may be would be needed.
        corners = tuple(signs for signs in cells if cell_dimension(3, planes, signs) == 0)
        self.refused(TooGreat, form_from, 3, planes, corners, most=16)

    def test_wrong_planes(self):
        for value in NO_TUPLES + (((1, 0), (1, 0)), ((2, 4),), ((0, 1),), ((1, 0, 0),), ((-1, 3),), ((1, True),),
                                  (None,), ([1, 0],)):
            self.refused(NotForm, form_from, 1, value, (), word="planes")
            self.refused(NotForm, form_from, 1, value, None, word="planes")
        planes = tuple((1, k) for k in range(61))
        self.refused(NotForm, form_from, 1, planes + ((1, 0),), (), word="planes")
        self.refused(TooGreat, form_from, 1, planes, (), most=60)

    def test_wrong_cells(self):
        planes = ((1, 0, 0), (0, 1, 0), (1, 1, 0))
        for value in NO_TUPLES + (((1, 1),), ((0, 0, 1),), ((1, 1, -1),), ((1, 1, 2),), ((1, 1, 1), (1, 1, 1)),
                                  ((1, 1, 1), None), ([1, 1, 1],), ((1, 1, True),), ((1, 1.0, 1),), (((1,), 1, 1),),
                                  ((1, 1, [1]),), ((),), [(1, 1, 1)]):
            self.refused(NotForm, form_from, 2, planes, value, word="cells")
        for value in NO_INTEGERS:
            self.refused(NotForm, form_from, 1, ((1, 0),), ((value,),), word="cells")
        self.refused(NotForm, form_from, 1, (), ((), ()), word="cells")


class NeedForm(SolidCase):

    def test_forms(self):
        for dimension in DIMENSIONS:
            for form in [EMPTY[dimension], ALL[dimension]] + list(some_forms(dimension, 20, 5, 94)):
                self.assertIs(need_form(form), form)
        full = points_of_line(range(60))
        self.assertIs(need_form(value=full), full)

    def test_bent_forms(self):
        square = form_of(2, box(2))
        dimension, planes, cells = square
        turned = tuple(planes[::-1])
        more = tuple(sorted(planes + ((1, 1, 7),)))
        spare = [signs for signs in cells_of(2, planes) if signs not in cells]
        finer = tuple(sorted(signs for signs in cells_of(2, more)
                             if tuple(signs[more.index(plane)] for plane in planes) in cells))
        for value, word in (((2, planes), "form"), ((2, planes, cells, ()), "form"), ((0, (), ()), "form"),
                            ((4, (), ()), "form"), ((True, (), ()), "form"), ((2.0, planes, cells), "form"),
                            ((2, list(planes), cells), "form"), ((2, planes, list(cells)), "form"),
                            ((2, None, ()), "form"), ([2, planes, cells], "form"), (("2", planes, cells), "form"),
                            ((2, turned, cells), "planes"), ((2, planes + planes[-1:], cells), "planes"),
                            ((1, planes, cells), "planes"), ((3, planes, cells), "planes"),
                            ((2, planes[:-1] + ((2, 0, 0),), cells), "planes"),
                            ((2, planes[:-1] + (None,), cells), "planes"), ((2, (1, 2), cells), "planes"),
                            ((2, planes[:-1] + ((1, False, 0),), cells), "planes"),
                            ((2, planes, cells[::-1]), "cells"), ((2, planes, cells + cells[-1:]), "cells"),
                            ((2, planes[1:], cells), "cells"), ((2, planes, cells[:-1] + (None,)), "cells"),
                            ((2, planes, cells + ((1, 1, 1, -1),)), "cells"), ((2, planes, ((1, -1, 1, 1),)), "cells"),
                            ((2, planes, ((),)), "cells"), ((2, planes, (([],) * 4,)), "cells"),
                            ((2, planes, cells[:-1] + ((True, 1, 0, 1),)), "cells"),
                            ((2, more, finer), "needed"), ((2, planes, ()), "needed"),
                            ((2, planes, cells_of(2, planes)), "needed"), ((1, ((1, 0),), ()), "needed"),
                            ((2, ((1, -1, 0), (1, 1, 0)), ((0, 0),)), "needed")):
            self.refused(NotForm, need_form, value, word=word)
        # A cell too many, or too few, is another form or none.
        for signs in spare:
            self.judged((2, planes, tuple(sorted(cells + (signs,)))))
        for signs in cells:
            self.judged((2, planes, tuple(cell for cell in cells if cell != signs)))

    def judged(self, value):
        """A value is a form exactly if it is the form of the union of its cells."""
        if form_from(*value) == value:
            self.assertIs(need_form(value), value)
        else:
            self.refused(NotForm, need_form, value, word="needed")

    def test_small_changes(self):
        random = Random(95)
        for dimension in DIMENSIONS:
            for form in some_forms(dimension, 25, 4, 96):
                cells = set(form[2]) ^ {random.choice(cells_of(dimension, form[1]))}
                try:
                    self.judged((dimension, form[1], tuple(sorted(cells))))
                except TooGreat:
                    self.refused(NotForm, need_form, (dimension, form[1], tuple(sorted(cells))), word="needed")

    def test_just_as_many_planes_as_may_be(self):
        for dimension, most in MOST.items():
            planes = tuple(sorted((1,) + (0,) * (dimension - 1) + (k,) for k in range(most + 1)))
            cells = tuple(signs for signs in cells_of(dimension, planes[:most]) if 0 in signs)
            self.same(need_form((dimension, planes[:most], cells)), (dimension, planes[:most], cells))
            self.refused(NotForm, need_form, (dimension, planes, ()), word="planes")
            self.refused(NotForm, need_form, (dimension, planes, None), word="form")

    def test_a_union_that_needs_too_many_planes(self):
        planes = tuple((1, k, k * k, k ** 3 * 7 + 1) for k in range(1, 17))
        cells = tuple(signs for signs in cells_of(3, planes) if signs.count(0) == 3)
        self.refused(NotForm, need_form, (3, planes, cells), word="needed")

    def test_any_value(self):
        for value in NO_TUPLES + ((), (1,), (1, 2, 3), ((), (), ()), (None, (), ()), (1, (), None), (1, None, ())):
            self.refused(NotForm, need_form, value, word="form")
        for value in NO_INTEGERS:
            self.refused(NotForm, need_form, (value, (), ()), word="form")
        # The first of the words that apply.
        self.refused(NotForm, need_form, (1, ((2, 2),), ((5,),)), word="planes")
        self.refused(NotForm, need_form, (1, ((1, 0), (1, 2)), ((5, 5),)), word="cells")


class ReadOff(SolidCase):

    def test_formula_of(self):
        self.same(formula_of(EMPTY[1]), ("or",))
        self.same(formula_of(ALL[2]), ("or", ("and",)))
        self.same(formula_of(form=form_of(1, ("is", "ge", (2, -1)))),
                  ("or", ("and", ("is", "eq", (2, -1))), ("and", ("is", "gt", (2, -1)))))
        self.same(formula_of(form_of(2, ("and", ("is", "lt", (1, 0, 0)), ("is", "gt", (0, 1, 0))))),
                  ("or", ("and", ("is", "gt", (0, 1, 0)), ("is", "lt", (1, 0, 0)))))

    def test_the_formula_of_a_form_gives_the_form(self):
        for dimension in DIMENSIONS:
            for form in list(some_forms(dimension, 40, 3, 97)) + list(told_forms(dimension, 20, 98)):
                formula = formula_of(form)
                if words_of(formula) <= 200:
                    self.same(form_of(dimension, formula), form)
                    self.same(form_of(dimension, read_formula(dimension, formula_text(formula))), form)

    def test_points(self):
        for dimension in DIMENSIONS:
            for form in some_forms(dimension, 20, 5, 99):
                for point in small_points(dimension, 25, 100):
                    self.same(cell_at(form, point), signs_at(form[1], point))
                    self.assertIs(has_point(form, point), signs_at(form[1], point) in set(form[2]))

    def test_points_in_on_and_beside(self):
        square = form_of(2, ("and", ("is", "ge", (1, 0, 0)), ("is", "lt", (1, 0, -1)), ("is", "gt", (0, 1, 0)),
                             ("is", "le", (0, 1, -1))))
        for point, wanted in (((1, 1, 2), True), ((0, 1, 2), True), ((2, 1, 2), False), ((1, 0, 2), False),
                              ((1, 2, 2), True), ((0, 1, 1), True), ((1, 1, 1), False), ((0, 0, 1), False),
                              ((-1, 1, 2), False), ((BIG - 1, 1, BIG), True), ((BIG + 1, 1, BIG), False),
                              ((0, 1, BIG), True)):
            self.assertIs(has_point(form=square, point=point), wanted)
        self.same(cell_at(form=square, point=(0, 1, 2)), (-1, 1, -1, 0))
        self.same(cell_at(EMPTY[3], (1, 2, 3, 4)), ())

    def test_no_point(self):
        form = form_of(2, box(2))
        for call in (lambda value: has_point(form, value), lambda value: cell_at(form, value)):
            self.refuses_what_is_no_point(call)

    def test_empty_and_whole(self):
        for dimension in DIMENSIONS:
            self.assertIs(is_empty(form=EMPTY[dimension]), True)
            self.assertIs(is_all(form=EMPTY[dimension]), False)
            self.assertIs(is_empty(ALL[dimension]), False)
            self.assertIs(is_all(ALL[dimension]), True)
            self.same(dimension_of(form=EMPTY[dimension]), -1)
            self.same(dimension_of(ALL[dimension]), dimension)
            self.refused(Empty, a_point, EMPTY[dimension])
            check_point(dimension, a_point(form=ALL[dimension]))
            one = form_of(dimension, lone(*range(dimension)))
            self.assertIs(is_empty(one), False)
            self.assertIs(is_all(one), False)
            self.same(dimension_of(one), 0)
            self.same(a_point(one), tuple(range(dimension)) + (1,))

    def test_dimensions(self):
        self.same(dimension_of(form_of(3, ("is", "eq", (1, 2, 3, 4)))), 2)
        self.same(dimension_of(form_of(3, ("or", lone(1, 2, 3), ("and", ("is", "eq", (1, 0, 0, 0)),
                                                               ("is", "eq", (1, 1, 0, 0)))))), 1)
        for dimension in DIMENSIONS:
            for form in some_forms(dimension, 20, 5, 101):
                wanted = max((cell_dimension(dimension, form[1], signs) for signs in form[2]), default=-1)
                self.same(dimension_of(form), wanted)
                if form[2]:
                    point = check_point(dimension, a_point(form))
                    self.assertTrue(has_point(form, point))
                    self.assertEqual(len(numbers_at(point)), dimension)
                    self.same(a_point(form), point)


if __name__ == "__main__":
    unittest.main()
