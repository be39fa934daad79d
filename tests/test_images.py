"""Promises [41] and [42]: flats and sets led by tables, shadows, slices, sets moved."""

import unittest
from fractions import Fraction
from random import Random

from anew import has_points
from formed import ALL, EMPTY, MOST, box, in_form, lone, pairs_of, points_of_line, some_forms, told_forms, unit
from helping import BIG, NO_INTEGERS, NO_TUPLES, SolidCase, numbers_at, pair, worth
from making import crossing_lines, small_points
from onesolid.cells import cells_of, point_in
from onesolid.deeds import both, either, is_within, rest
from onesolid.errors import NotMap, TooGreat, Unlike
from onesolid.flatmaps import flat_image
from onesolid.flats import check_flat, flat_directions, flat_of, flat_point, flat_through, on_flat
from onesolid.forms import form_from, form_of, has_point, need_form
from onesolid.images import drawn_back, drawn_on, full_shadow, scaled, shadow, shifted, slice_at, turned_about
from onesolid.needed import cut_out, flats_of, is_cut_out
from onesolid.points import moved_by, point_of

DIMENSIONS = (1, 2, 3)
NO_TABLES = NO_TUPLES + ((), (None,), ((),), ((1,),), ([1, 0, 0],), ((1, 0, 0), [0, 1, 0]), ((1, 0, 0), (0, 1)),
                         ((1, 0, 0), (0, 1, 0, 0)), ((1, 0, 0),) * 4, ((1, 0, True),), ((1, 0, 0), (1, None, 0)),
                         ((1, 0, 0, 0, 0),), ((1, 0, "0"),), [(1, 0, 0), (0, 1, 0)])


def some_table(random, dimension, many):
    return tuple(tuple(random.choice((-2, -1, 0, 0, 1, 1, 2)) for _ in range(dimension + 1)) for _ in range(many))


def led(table, coordinates):
    return [worth(row, coordinates) for row in table]


def point_with(coordinates):
    return point_of(tuple(pair(number) for number in coordinates))


class FlatImage(SolidCase):

    def test_worked_by_hand(self):
        shadow_table = ((1, 0, 0, 0), (0, 1, 0, 0))
        self.same(flat_image(3, (), shadow_table), ())
        self.same(flat_image(3, ((1, 1, 0, -1),), shadow_table), ((1, 1, -1),))
        self.same(flat_image(3, ((1, 1, 1, -1),), shadow_table), ())
        self.same(flat_image(3, ((1, 0, 0, 2), (0, 1, 0, 3)), shadow_table), ((1, 0, 2), (0, 1, 3)))
        self.same(flat_image(dimension=2, flat=((1, 0, -1), (0, 2, 1)), table=((1, 2, 0),)), ((1, 0),))
        self.same(flat_image(1, (), ((1, 0), (2, 5), (0, 7))), ((2, -1, 0, 5), (0, 0, 1, -7)))
        self.same(flat_image(2, (), ((0, 0, 4), (0, 0, 5))), ((1, 0, -4), (0, 1, -5)))
        self.same(flat_image(2, (), ((1, 1, 0), (2, 2, 0))), ((2, -1, 0),))
        self.same(flat_image(1, ((BIG, -1),), ((1, 1),)), ((BIG, -1 - BIG),))

    def test_images_of_its_points(self):
        random = Random(130)
        for dimension in DIMENSIONS:
            for _ in range(40):
                flat = flat_of(dimension, some_table(random, dimension, random.randint(0, dimension)))
                if flat is None:
                    continue
                table = some_table(random, dimension, random.randint(1, 3))
                image = check_flat(len(table), flat_image(dimension, flat, table))
                points = [flat_point(dimension, flat)]
                for direction in flat_directions(dimension, flat):
                    points.append(moved_by(points[0], direction, (3, 2)))
                images = tuple(point_with(led(table, numbers_at(point))) for point in points)
                self.same(image, flat_through(images))
                self.assertTrue(all(on_flat(image, point) for point in images))


class DrawnOn(SolidCase):

    def test_worked_by_hand(self):
        square = form_of(2, box(2))
        self.same(drawn_on(square, ((0, 1, 0), (1, 0, 0))), square)
        self.same(drawn_on(form=square, table=((1, 1, 0),)), form_of(1, box(1, 0, 2)))
        self.same(drawn_on(square, ((1, 0, 5), (0, 1, 5))), form_of(2, box(2, 5, 6)))
        self.same(drawn_on(square, ((2, 0, 0), (0, 2, 0))), form_of(2, box(2, 0, 2)))
        # On a line, on a point, into space.
        self.same(drawn_on(square, ((1, 1, 0), (1, 1, 0))),
                  form_of(2, ("and", ("is", "eq", (1, -1, 0)), ("is", "ge", (1, 0, 0)), ("is", "le", (1, 0, -2)))))
        self.same(drawn_on(square, ((0, 0, 3), (0, 0, 4))), form_of(2, lone(3, 4)))
        self.same(drawn_on(square, ((1, 0, 0), (0, 1, 0), (0, 0, 7))),
                  form_of(3, ("and", ("is", "eq", (0, 0, 1, -7)), ("is", "ge", (1, 0, 0, 0)),
                              ("is", "le", (1, 0, 0, -1)), ("is", "ge", (0, 1, 0, 0)), ("is", "le", (0, 1, 0, -1)))))
        self.same(drawn_on(form_of(1, box(1, 0, 2, ("gt", "le"))), ((1, 0), (1, 1))),
                  form_of(2, ("and", ("is", "eq", (1, -1, 1)), ("is", "gt", (1, 0, 0)), ("is", "le", (1, 0, -2)))))

    def test_empty_and_whole(self):
        for dimension in DIMENSIONS:
            table = ((0,) * dimension + (1,), unit(dimension, 0))
            self.same(drawn_on(EMPTY[dimension], table), EMPTY[2])
            self.same(drawn_on(ALL[dimension], table), form_of(2, ("is", "eq", (1, 0, -1))))
            self.same(drawn_on(ALL[dimension], (unit(dimension, dimension - 1, 4),)), ALL[1])

    def test_open_and_closed(self):
        # The shadow on one axis of a square that keeps just one corner of its side.
        form = form_of(2, ("or", box(2, 0, 1, ("gt", "lt")), lone(0, 0), lone(1, 1)))
        self.same(drawn_on(form, ((1, 0, 0),)), form_of(1, box(1)))
        self.same(drawn_on(form, ((1, 1, 0),)), form_of(1, box(1, 0, 2)))
        self.same(drawn_on(form, ((1, -1, 0),)), form_of(1, box(1, -1, 1, ("gt", "lt"))))

    def test_told_anew(self):
        random = Random(131)
        for dimension, many in ((1, 15), (2, 15), (3, 8)):
            for form in some_forms(dimension, many, 3, 132):
                table = some_table(random, dimension, random.randint(1, 3))
                try:
                    found = drawn_on(form, table)
                except TooGreat:
                    continue
                self.assertIs(need_form(found), found)
                cells = cells_of(len(table), found[1])
                for signs in random.sample(cells, min(8, len(cells))):
                    self.judge(form, table, found, point_in(len(table), found[1], signs))
                for point in small_points(len(table), 4, random.random()):
                    self.judge(form, table, found, point)

    def judge(self, form, table, found, point):
        """The point belongs to the set drawn on exactly if some cell has a point that the table leads to it."""
        numbers = [(tuple(number * point[-1] for number in row), number) for row, number in zip(table, point)]
        lead = [("eq", row[:-1] + (row[-1] - number,)) for row, number in numbers]
        wanted = any(has_points(pairs + lead, form[0]) for pairs in pairs_of(form))
        self.assertIs(has_point(found, point), wanted)

    def test_one_table_and_then_another(self):
        random = Random(133)
        for dimension in DIMENSIONS:
            for form in some_forms(dimension, 12, 2, 134):
                one = some_table(random, dimension, random.randint(1, 3))
                two = some_table(random, len(one), random.randint(1, 3))
                whole = tuple(self.put(dimension, one, row) for row in two)
                try:
                    self.same(drawn_on(drawn_on(form, one), two), drawn_on(form, whole))
                except TooGreat:
                    pass

    def put(self, dimension, table, row):
        total = [0] * dimension + [row[-1]]
        for number, own in zip(row, table):
            total = [a + number * b for a, b in zip(total, own)]
        return tuple(total)

    def test_planes_that_cut_out_the_images(self):
        random = Random(135)
        for dimension in DIMENSIONS:
            for form in some_forms(dimension, 12, 3, 136):
                table = some_table(random, dimension, random.randint(1, 3))
                images = [flat_image(dimension, flat, table) for flat in flats_of(form) + ((),)]
                planes = cut_out(len(table), tuple(images))
                try:
                    found = drawn_on(form, table)
                except TooGreat:
                    self.assertGreater(len(planes), MOST[len(table)])
                    continue
                inside = [signs for signs in cells_of(len(table), planes)
                          if has_point(found, point_in(len(table), planes, signs))]
                self.same(form_from(len(table), planes, tuple(inside)), found)
                for flat in flats_of(found):
                    self.assertTrue(is_cut_out(len(table), planes, flat))

    def test_no_table(self):
        for value in NO_TABLES:
            self.refused(NotMap, drawn_on, ALL[2], value)
        for value in NO_INTEGERS:
            self.refused(NotMap, drawn_on, ALL[1], ((1, value),))
        self.refused(NotMap, drawn_on, ALL[2], ((1, 0), (1, 0)))
        self.refused(NotMap, drawn_on, ALL[1], ((1, 0, 0),))
        self.refused(NotMap, drawn_on, ALL[3], ((1, 0, 0), (0, 1, 0), (0, 0, 1)))

    def test_too_great(self):
        # Points of the plane with one coordinate between them: 61 of them, and 60.
        lines = tuple((1, 0, -8 * k) for k in range(8)) + tuple((0, 1, -k) for k in range(8))
        cells = [signs for signs in cells_of(2, lines) if signs.count(0) == 2]
        form = form_from(2, lines, tuple(cells))
        self.refused(TooGreat, drawn_on, form, ((1, 1, 0),), most=60)
        fewer = form_from(2, lines, tuple(cells[:60]))
        self.assertEqual(len(drawn_on(fewer, ((1, 1, 0),))[1]), 60)
        # 24 lines into space, where 16 planes may be.
        lines = tuple((1, 0, -k) for k in range(17))
        form = form_from(2, lines, tuple(signs for signs in cells_of(2, lines) if 0 in signs))
        into = ((1, 0, 0), (0, 1, 0), (0, 0, 0))
        self.refused(TooGreat, drawn_on, form, into, most=16)
        self.refused(NotMap, drawn_on, form, into + ((0, 0, 1),))
        self.refused(NotMap, drawn_on, form, ((1, 0), (0, 1), (0, 0)))
        lines = lines[:15]
        form = form_from(2, lines, tuple(signs for signs in cells_of(2, lines) if 0 in signs))
        self.assertEqual(len(drawn_on(form, into)[1]), 16)


class DrawnBack(SolidCase):

    def test_worked_by_hand(self):
        square = form_of(2, box(2))
        self.same(drawn_back(square, ((1, 0), (1, 0))), form_of(1, box(1)))
        self.same(drawn_back(form=square, table=((1, 0), (2, 0))),
                  form_of(1, ("and", ("is", "ge", (1, 0)), ("is", "le", (2, -1)))))
        self.same(drawn_back(square, ((-1, 0, 1), (0, 1, 0))), square)
        self.same(drawn_back(square, ((0, 0, 1), (0, 0, 0))), ALL[2])
        self.same(drawn_back(square, ((0, 0, 1), (0, 0, 2))), EMPTY[2])
        self.same(drawn_back(square, ((1, 0, 0, 0), (0, 1, 1, 0))),
                  form_of(3, ("and", ("is", "ge", (1, 0, 0, 0)), ("is", "le", (1, 0, 0, -1)),
                              ("is", "ge", (0, 1, 1, 0)), ("is", "le", (0, 1, 1, -1)))))
        for dimension in DIMENSIONS:
            table = ((1, 2, 3),) * dimension
            self.same(drawn_back(EMPTY[dimension], table), EMPTY[2])
            self.same(drawn_back(ALL[dimension], table), ALL[2])

    def test_points_are_those_whose_images_are_in_the_set(self):
        random = Random(137)
        for dimension in DIMENSIONS:
            for form in some_forms(dimension, 20, 4, 138):
                space = random.randint(1, 3)
                table = some_table(random, space, dimension)
                found = drawn_back(form, table)
                self.assertIs(need_form(found), found)
                for point in small_points(space, 25, random.random()):
                    self.assertIs(has_point(found, point), in_form(form, led(table, numbers_at(point))))

    def test_back_and_on(self):
        random = Random(139)
        for dimension in DIMENSIONS:
            for form in some_forms(dimension, 12, 3, 140):
                table = some_table(random, dimension, dimension)
                if flat_image(dimension, (), table) == ():
                    self.same(drawn_on(drawn_back(form, table), table), form)
                    self.same(drawn_back(drawn_on(form, table), table), form)

    def test_no_table(self):
        for value in NO_TABLES + (((1, 0, 0),), ((1, 0, 0),) * 3):
            self.refused(NotMap, drawn_back, ALL[2], value)
        self.refused(NotMap, drawn_back, points_of_line(range(60)), ((1, 0, 0, 0), (1, 0, 0, 0)))

    def test_too_great(self):
        line = points_of_line(range(17))
        self.refused(TooGreat, drawn_back, line, ((1, 2, 3, 4),), most=16)
        self.assertEqual(len(drawn_back(points_of_line(range(16)), ((1, 2, 3, 4),))[1]), 16)
        self.refused(TooGreat, drawn_back, points_of_line(range(25)), ((1, 2, 3),), most=24)
        self.same(drawn_back(line, ((0, 0, 0, 4),)), ALL[3])
        self.refused(NotMap, drawn_back, line, ((1, 2, 3, True),))


class Shadows(SolidCase):

    def test_worked_by_hand(self):
        triangle = form_of(2, ("and", ("is", "ge", (1, 0, 0)), ("is", "gt", (0, 1, 0)), ("is", "le", (1, 1, -1))))
        self.same(shadow(form=triangle), form_of(1, box(1, 0, 1, ("ge", "lt"))))
        self.same(full_shadow(form=triangle), EMPTY[1])
        self.same(full_shadow(rest(triangle)), rest(shadow(triangle)))
        strip = form_of(2, box(2)[:3])
        self.same(shadow(strip), form_of(1, box(1)))
        self.same(full_shadow(strip), form_of(1, box(1)))
        self.same(shadow(form_of(3, box(3))), form_of(2, box(2)))
        for dimension in (2, 3):
            for form in (EMPTY, ALL):
                self.same(shadow(form[dimension]), form[dimension - 1])
                self.same(full_shadow(form[dimension]), form[dimension - 1])

    def test_without_bounds(self):
        # Above x > 0 only, however far: what lies beyond a curve of lines.
        form = form_of(2, ("and", ("is", "gt", (1, 0, 0)), ("is", "gt", (-1, 1, -3))))
        self.same(shadow(form), form_of(1, ("is", "gt", (1, 0))))
        self.same(shadow(form_of(2, ("is", "ge", (1, 1, 0)))), ALL[1])
        self.same(full_shadow(form_of(2, ("is", "ge", (1, 1, 0)))), EMPTY[1])

    def test_the_words_some_and_every(self):
        for dimension in (1, 2):
            for form in told_forms(dimension + 1, 30, 141, 3):
                for call, word in ((shadow, True), (full_shadow, False)):
                    try:
                        found = call(form)
                    except TooGreat:
                        continue
                    self.assertIs(need_form(found), found)
                    for point in small_points(dimension, 8, 142):
                        self.assertIs(has_point(found, point), self.over(form, point, word))

    def over(self, form, point, word):
        """Whether some, or every, value of the last coordinate gives a point of the set."""
        used = form if word else rest(form)
        over = [("eq", unit(form[0], place)[:-1] + (Fraction(-number, point[-1]),))
                for place, number in enumerate(point[:-1])]
        return any(has_points(pairs + over, form[0]) for pairs in pairs_of(used)) == word

    def test_refused(self):
        for call in (shadow, full_shadow):
            self.refused(Unlike, call, EMPTY[1])
            self.refused(Unlike, call, points_of_line(range(60)))
            # 12 lines cross above 66 points, 11 above 55.
            lines = tuple(row for _, _, row in crossing_lines(12)[1:])
            self.refused(TooGreat, call, form_of(2, ("or",) + tuple(("is", "eq", row) for row in lines)), most=60)
            fewer = form_of(2, ("or",) + tuple(("is", "eq", row) for row in lines[:11]))
            self.same(call(fewer), ALL[1] if call is shadow else EMPTY[1])


class Slices(SolidCase):

    def test_worked_by_hand(self):
        triangle = form_of(2, ("and", ("is", "ge", (1, 0, 0)), ("is", "gt", (0, 1, 0)), ("is", "le", (1, 1, -1))))
        self.same(slice_at(triangle, (0, 1)), EMPTY[1])
        self.same(slice_at(form=triangle, value=(1, 3)),
                  form_of(1, ("and", ("is", "ge", (1, 0)), ("is", "le", (3, -2)))))
        self.same(slice_at(triangle, (1, 1)), form_of(1, lone(0)))
        self.same(slice_at(triangle, (-5, 2)), EMPTY[1])
        for value in ((0, 1), (-7, 3), (BIG, 2)):
            for dimension in (2, 3):
                self.same(slice_at(EMPTY[dimension], value), EMPTY[dimension - 1])
                self.same(slice_at(ALL[dimension], value), ALL[dimension - 1])
        # A plane at the height itself tells all or nothing there.
        self.same(slice_at(form_of(3, ("is", "eq", (0, 0, 2, -1))), (1, 2)), ALL[2])
        self.same(slice_at(form_of(3, ("is", "ne", (0, 0, 2, -1))), (1, 2)), EMPTY[2])

    def test_points_above(self):
        random = Random(143)
        for dimension in (2, 3):
            for form in some_forms(dimension, 20, 5, 144):
                for _ in range(3):
                    value = Fraction(random.randint(-6, 6), random.randint(1, 4))
                    found = slice_at(form, pair(value))
                    self.assertIs(need_form(found), found)
                    for point in small_points(dimension - 1, 10, random.random()):
                        self.assertIs(has_point(found, point), in_form(form, numbers_at(point) + [value]))

    def test_refused(self):
        self.refused(Unlike, slice_at, EMPTY[1], (0, 1))
        self.refused(Unlike, slice_at, points_of_line(range(60)), (1, 2))


class Moved(SolidCase):

    def test_worked_by_hand(self):
        square = form_of(2, box(2))
        self.same(shifted(form=square, point=(4, 4, 1)), form_of(2, box(2, 4, 5)))
        self.same(shifted(square, (-1, -1, 2)), form_of(2, ("and", ("is", "ge", (2, 0, 1)), ("is", "le", (2, 0, -1)),
                                                           ("is", "ge", (0, 2, 1)), ("is", "le", (0, 2, -1)))))
        self.same(turned_about(form=square), form_of(2, box(2, -1, 0)))
        self.same(scaled(form=square, value=(3, 1)), form_of(2, box(2, 0, 3)))
        self.same(scaled(square, (-3, 1)), form_of(2, box(2, -3, 0)))
        self.same(scaled(form_of(1, box(1, 3, 9, ("gt", "le"))), (-2, 3)), form_of(1, box(1, -6, -2, ("ge", "lt"))))
        self.same(square, form_of(2, box(2)))
        for dimension in DIMENSIONS:
            for form in (EMPTY[dimension], ALL[dimension]):
                self.same(shifted(form, (1,) * dimension + (2,)), form)
                self.same(turned_about(form), form)
                self.same(scaled(form, (-5, 7)), form)

    def test_points(self):
        random = Random(145)
        for dimension in DIMENSIONS:
            for form in some_forms(dimension, 20, 5, 146):
                step = small_points(dimension, 1, random.random())[0]
                factor = Fraction(random.choice((-3, -2, -1, 1, 2, 5)), random.randint(1, 4))
                move, turn, size = shifted(form, step), turned_about(form), scaled(form, pair(factor))
                for found in (move, turn, size):
                    self.assertIs(need_form(found), found)
                for point in small_points(dimension, 12, random.random()):
                    numbers = numbers_at(point)
                    self.assertIs(has_point(move, point),
                                  in_form(form, [a - b for a, b in zip(numbers, numbers_at(step))]))
                    self.assertIs(has_point(turn, point), in_form(form, [-a for a in numbers]))
                    self.assertIs(has_point(size, point), in_form(form, [a / factor for a in numbers]))

    def test_there_and_back(self):
        for dimension in DIMENSIONS:
            for form in some_forms(dimension, 20, 5, 147):
                step = (3,) * dimension + (2,)
                self.same(shifted(shifted(form, step), (-3,) * dimension + (2,)), form)
                self.same(turned_about(turned_about(form)), form)
                self.same(scaled(scaled(form, (-2, 5)), (-5, 2)), form)
                self.same(scaled(form, (-1, 1)), turned_about(form))
                self.same(scaled(form, (1, 1)), form)

    def test_planes_that_come_in_another_sequence(self):
        # Two points that share a line: which rows are taken for them depends on where they are.
        form = form_of(2, ("or", lone(0, 0), lone(0, 5), lone(7, 0)))
        for step in ((-9, -9, 1), (-3, 5, 2), (0, -5, 1)):
            found = shifted(form, step)
            self.assertIs(need_form(found), found)
            self.assertEqual(len(found[2]), 3)

    def test_as_many_planes_as_may_be(self):
        full = points_of_line(range(60))
        self.same(shifted(full, (1, 1)), points_of_line(range(1, 61)))
        self.same(turned_about(full), points_of_line(range(-59, 1)))
        self.same(scaled(full, (2, 1)), points_of_line(range(0, 120, 2)))

    def test_no_point(self):
        form = form_of(2, box(2))
        self.refuses_what_is_no_point(lambda value: shifted(form, value))

    def test_unions_are_moved_part_by_part(self):
        for dimension in DIMENSIONS:
            forms = list(told_forms(dimension, 12, 148, 3))
            for one, two in zip(forms, forms[1:]):
                step = (1,) * dimension + (3,)
                self.same(shifted(either(one, two), step), either(shifted(one, step), shifted(two, step)))
                self.assertIs(is_within(shifted(both(one, two), step), shifted(one, step)), True)


if __name__ == "__main__":
    unittest.main()
