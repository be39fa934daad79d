"""Promises [15] and [16]: looked-at planes, and where a formula holds."""

import unittest
from fractions import Fraction
from math import gcd
from random import Random

from helping import BIG, OTHER_BIG, SolidCase, numbers_at, pair, told, worth
from making import small_formulas, small_points, with_looked_at
from onesolid.errors import NotFormula, TooGreat
from onesolid.formulas import check_formula, without_not
from onesolid.holding import enough, holds, looked_at, places, put_through, witness
from onesolid.points import check_point, point_of
from onesolid.rows import check_plane, signs_at

FREE = ("is", "is", "not", "and", "or")
ALL = FREE + ("some", "every", "back")


def plane(row):
    """The plane of a row, told anew."""
    if not any(row[:-1]):
        return None
    first = next(number for number in row if number != 0)
    divisor = gcd(*row) if first > 0 else -gcd(*row)
    return tuple(number // divisor for number in row)


def planes_looked_at(dimension, formula):
    """The looked-at planes, told anew as the document tells them."""
    word = formula[0]
    if word == "is":
        found = [plane(formula[2])]
    elif word == "back":
        table = formula[1]
        found = []
        for row in planes_looked_at(len(table), formula[2]):
            columns = list(zip(*table))
            through = [sum(a * b for a, b in zip(row, column)) for column in columns]
            through[-1] += row[-1]
            found.append(plane(tuple(through)))
    elif word in ("some", "every"):
        inside = planes_looked_at(dimension + 1, formula[1])
        found = [row[:-2] + row[-1:] for row in inside if row[-2] == 0]
        for one in inside:
            for other in inside:
                if one[-2] != 0 and other[-2] != 0:
                    row = [other[-2] * a - one[-2] * b for a, b in zip(one, other)]
                    found.append(plane(tuple(row[:-2] + row[-1:])))
    else:
        found = [row for part in formula[1:] for row in planes_looked_at(dimension, part)]
    return tuple(sorted(set(found) - {None}))


def is_so(word, number):
    return {"lt": number < 0, "le": number <= 0, "eq": number == 0,
            "ne": number != 0, "ge": number >= 0, "gt": number > 0}[word]


def free_truth(formula, numbers):
    """Whether a formula of "is", "not", "and", "or", "back" holds."""
    word = formula[0]
    if word == "is":
        return is_so(formula[1], worth(formula[2], numbers))
    if word == "not":
        return not free_truth(formula[1], numbers)
    if word == "back":
        return free_truth(formula[2], [worth(row, numbers) for row in formula[1]])
    return (all if word == "and" else any)(free_truth(part, numbers) for part in formula[1:])


def formula_lines(formula):
    """The rows of a formula of "is", "not", "and", "or"."""
    if formula[0] == "is":
        return [formula[2]]
    return [row for part in formula[1:] for row in formula_lines(part)]


def values_that_tell(formula, numbers):
    """Values of one more coordinate at and between which a formula without "some" and the like does not change."""
    turns = set()
    for row in formula_lines(formula):
        if row[-2] != 0:
            turns.add(-worth(row[:-2] + row[-1:], numbers) / row[-2])
    turns = sorted(turns)
    if not turns:
        return [Fraction(0)]
    between = [(2 * a + b) / 3 for a, b in zip(turns, turns[1:])]
    return turns + between + [turns[0] - 5, turns[-1] + 5]


class PutThrough(SolidCase):

    def test_worked_by_hand(self):
        self.same(put_through(2, ((1, 2, 3),), (5, 7)), (5, 10, 22))
        self.same(put_through(1, ((1, 2), (3, 4)), (5, 7, 9)), (26, 47))
        self.same(put_through(1, ((1, 2), (-1, 2)), (1, 1, 0)), (0, 4))
        self.same(put_through(3, ((1, 0, 0, 0), (0, 0, 2, 1)), (4, 6, 8)), (4, 0, 12, 14))
        self.same(put_through(2, ((0, 0, 0),), (5, 7)), (0, 0, 7))
        self.same(put_through(dimension=1, table=((2, 0),) * 4, row=(1, 2, 3, 4, 5)), (20, 5))
        self.same(put_through(4, ((1, 2, 3, 4, 5),), (-2, 1)), (-2, -4, -6, -8, -9))

    def test_great_numbers(self):
        self.same(put_through(1, ((BIG, 1), (1, OTHER_BIG)), (OTHER_BIG, -1, 0)), (BIG * OTHER_BIG - 1, 0))


class LookedAt(SolidCase):

    def test_is(self):
        for word in ("lt", "le", "eq", "ne", "ge", "gt"):
            self.same(looked_at(1, ("is", word, (-2, 4))), ((1, -2),))
        self.same(looked_at(2, ("is", "eq", (0, 0, 0))), ())
        self.same(looked_at(4, ("is", "eq", (0, 0, 0, 0, 5))), ())
        self.same(looked_at(dimension=3, formula=("is", "eq", (0, -6, 4, 2))), ((0, 3, -2, -1),))
        self.same(looked_at(1, ("is", "lt", (-BIG, BIG * 3))), ((1, -3),))

    def test_not_and_or(self):
        one, other = ("is", "lt", (2, 4)), ("is", "gt", (-1, 3))
        self.same(looked_at(1, ("not", one)), ((1, 2),))
        self.same(looked_at(1, ("and", one, other)), ((1, -3), (1, 2)))
        self.same(looked_at(1, ("or", one, other, ("not", one), ("is", "eq", (3, 6)))), ((1, -3), (1, 2)))
        self.same(looked_at(2, ("and",)), ())
        self.same(looked_at(2, ("or",)), ())

    def test_back(self):
        self.same(looked_at(1, ("back", ((2, 0), (0, 3)), ("is", "eq", (1, 1, 1)))), ((1, 2),))
        self.same(looked_at(1, ("back", ((1, 0), (1, 5)), ("is", "eq", (1, -1, 1)))), ())
        inside = ("or", ("is", "lt", (1, 0)), ("is", "lt", (1, -4)), ("is", "lt", (1, 4)))
        self.same(looked_at(2, ("back", ((0, -2, 0),), inside)), ((0, 1, -2), (0, 1, 0), (0, 1, 2)))
        self.same(looked_at(2, ("back", ((0, 0, 4),), inside)), ())
        self.same(looked_at(3, ("back", ((0, 0, 1, 4),), inside)), ((0, 0, 1, 0), (0, 0, 1, 4), (0, 0, 1, 8)))

    def test_some_and_every(self):
        for word in ("some", "every"):
            self.same(looked_at(1, (word, ("is", "lt", (1, 2, 3)))), ())
            self.same(looked_at(1, (word, ("is", "lt", (0, 2, 3)))), ())
            self.same(looked_at(1, (word, ("is", "lt", (4, 0, 6)))), ((2, 3),))
            two = ("and", ("is", "lt", (1, 2, 3)), ("is", "gt", (-3, 1, 5)))
            # The planes are (1, 2, 3) and (3, -1, -5).
            self.same(looked_at(1, (word, two)), ((1, -1),))
            self.same(looked_at(1, (word, ("or", two, ("is", "eq", (1, 0, 7))))), ((1, -1), (1, 7)))
            same_slope = ("or", ("is", "lt", (1, 2, 3)), ("is", "lt", (1, 2, 4)), ("is", "lt", (0, 1, 4)))
            self.same(looked_at(1, (word, same_slope)), ((1, -5), (1, -4)))
            upright = ("or", ("is", "eq", (0, 0, 1, 3)), ("is", "eq", (0, 0, 1, 5)), ("is", "eq", (0, 0, 2, -1)))
            self.same(looked_at(2, (word, upright)), ())

    def test_nested(self):
        inside = ("and", ("is", "lt", (1, 0, -1, 0)), ("is", "lt", (0, 1, -1, 0)), ("is", "lt", (1, 1, 1, -6)))
        self.same(looked_at(2, ("some", inside)), ((1, -1, 0), (1, 2, -6), (2, 1, -6)))
        self.same(looked_at(1, ("every", ("some", inside))), ((1, -2),))

    def test_many_formulas_told_anew(self):
        for dimension in (1, 2, 3, 4):
            for formula in small_formulas(dimension, 120, 5, ALL, 200 + dimension):
                wanted = planes_looked_at(dimension, formula)
                self.same(looked_at(dimension, formula), wanted)
                for found in wanted:
                    check_plane(dimension, found)

    def test_its_signs_settle_the_formula(self):
        for dimension in (1, 2):
            for formula in small_formulas(dimension, 60, 4, ALL, 220 + dimension):
                planes = looked_at(dimension, formula)
                known = {}
                for point in small_points(dimension, 25, 7):
                    signs = signs_at(planes, point)
                    is_held = holds(dimension, formula, point)
                    self.assertEqual(known.setdefault(signs, is_held), is_held)

    def test_200_of_the_whole_and_one_more(self):
        self.assertEqual(len(planes_looked_at(1, with_looked_at(190))), 190)
        just, more = with_looked_at(200), with_looked_at(201)
        check_formula(1, just)
        check_formula(1, more)
        self.same(len(looked_at(1, just)), 200)
        self.refused(TooGreat, looked_at, 1, more, most=200)
        self.refused(TooGreat, looked_at, 1, ("every", more[1]), most=200)
        self.refused(TooGreat, looked_at, 1, ("not", more), most=200)
        line = ("is", "lt", (1, 5000))
        self.refused(TooGreat, looked_at, 1, ("and", just, line), most=200)
        self.refused(TooGreat, looked_at, 1, ("or", line, just), most=200)
        self.same(len(looked_at(1, ("or", ("is", "lt", (1, 900)), just))), 200)

    def test_200_of_a_part_and_one_more(self):
        # Of the whole there is one plane or none.
        for table in (((0, 3),), ((0, 0, 0),)):
            dimension = len(table[0]) - 1
            self.same(looked_at(dimension, ("back", table, with_looked_at(200))), ())
            self.refused(TooGreat, looked_at, dimension, ("back", table, with_looked_at(201)), most=200)
            self.refused(TooGreat, looked_at, dimension, ("and", ("back", table, with_looked_at(201))), most=200)

    def test_many_inside_few_outside(self):
        # In the plane all of them are upright lines; of the line these are none.
        upright = ("some", ("back", ((0, 1, 0),), with_looked_at(200)))
        check_formula(1, upright)
        self.same(looked_at(1, upright), ())
        self.refused(TooGreat, looked_at, 1, ("some", ("back", ((0, 1, 0),), with_looked_at(201))), most=200)


class Values(SolidCase):

    def test_places(self):
        inside = ("and", ("is", "lt", (1, -1, 0)), ("is", "gt", (2, -1, 0)), ("is", "eq", (1, 0, 9)))
        self.same(places(1, inside, (3, 2)), ((3, 2), (3, 1)))
        self.same(places(1, inside, (0, 1)), ((0, 1),))
        self.same(places(1, inside, (-1, 1)), ((-2, 1), (-1, 1)))
        self.same(places(1, ("is", "eq", (1, 0, 9)), (0, 1)), ())
        self.same(places(1, ("and",), (0, 1)), ())
        self.same(places(dimension=2, formula=("is", "ne", (1, 2, -3, 4)), point=(1, 1, 2)), ((11, 6),))
        self.same(places(3, ("not", ("is", "ne", (1, 2, 3, 4, 5))), (0, 0, 0, 1)), ((-5, 4),))

    def test_places_ascend_by_their_values(self):
        inside = ("or",) + tuple(("is", "eq", (0, bottom, -top)) for top, bottom in
                                 ((1, 1), (1, 2), (2, 3), (-1, 3), (-1, 2), (7, 1), (-10, 1), (2, 4)))
        wanted = ((-10, 1), (-1, 2), (-1, 3), (1, 2), (2, 3), (1, 1), (7, 1))
        self.same(places(1, inside, (4, 5)), wanted)

    def test_places_of_parts_with_one_more_coordinate(self):
        # Some z is above y and below x: y = x is the one place.
        inside = ("some", ("and", ("is", "lt", (0, 1, -1, 0)), ("is", "gt", (1, 0, -1, 0))))
        self.same(places(1, inside, (5, 3)), ((5, 3),))

    def test_enough(self):
        inside = ("and", ("is", "lt", (1, -1, 0)), ("is", "gt", (2, -1, 0)), ("is", "eq", (1, 0, 9)))
        self.same(enough(1, inside, (3, 2)), ((1, 2), (3, 2), (9, 4), (3, 1), (4, 1)))
        self.same(enough(1, inside, (0, 1)), ((-1, 1), (0, 1), (1, 1)))
        self.same(enough(1, ("and",), (7, 1)), ((0, 1),))
        self.same(enough(dimension=1, formula=("is", "lt", (3, 0, 1)), point=(7, 1)), ((0, 1),))
        three = ("or", ("is", "eq", (0, 0, 1, 0)), ("is", "eq", (0, 0, 3, -1)), ("is", "eq", (0, 0, 1, 5)))
        self.same(enough(2, three, (0, 0, 1)),
                  ((-6, 1), (-5, 1), (-5, 2), (0, 1), (1, 6), (1, 3), (4, 3)))

    def test_places_and_enough_of_many(self):
        for dimension in (1, 2, 3):
            for formula in small_formulas(dimension + 1, 30, 4, ALL, 240 + dimension):
                for point in small_points(dimension, 3, 9):
                    wanted = set()
                    for row in planes_looked_at(dimension + 1, formula):
                        if row[-2] != 0:
                            wanted.add(-worth(row[:-2] + row[-1:], numbers_at(point)) / row[-2])
                    wanted = sorted(wanted)
                    self.same(places(dimension, formula, point), tuple(pair(value) for value in wanted))
                    if wanted:
                        middles = [(a + b) / 2 for a, b in zip(wanted, wanted[1:])]
                        wanted = sorted(wanted + middles + [wanted[0] - 1, wanted[-1] + 1])
                    else:
                        wanted = [Fraction(0)]
                    self.same(enough(dimension, formula, point), tuple(pair(value) for value in wanted))

    def test_too_many_planes(self):
        # Not the planes with which the last coordinate changes are too many, but all of them.
        just = ("back", ((1, 0, 0),), with_looked_at(200))
        more = ("back", ((1, 0, 0),), with_looked_at(201))
        self.same(places(1, just, (0, 1)), ())
        self.same(enough(1, just, (0, 1)), ((0, 1),))
        self.refused(TooGreat, places, 1, more, (0, 1), most=200)
        self.refused(TooGreat, enough, 1, more, (0, 1), most=200)
        self.same(len(places(1, ("back", ((0, 1, 0),), with_looked_at(200)), (0, 1))), 200)
        self.refused(TooGreat, places, 1, ("back", ((0, 1, 0),), with_looked_at(201)), (0, 1), most=200)

    def test_great_numbers(self):
        inside = ("or", ("is", "lt", (BIG, -1, 0)), ("is", "lt", (0, OTHER_BIG, -1)))
        self.same(places(1, inside, (1, 7)), ((1, OTHER_BIG), (BIG // 7, 1)))


class Holds(SolidCase):

    def test_is(self):
        for word, below, at, above in (("lt", True, False, False), ("le", True, True, False),
                                       ("eq", False, True, False), ("ne", True, False, True),
                                       ("ge", False, True, True), ("gt", False, False, True)):
            formula = ("is", word, (2, -3))
            self.same(holds(1, formula, (1, 1)), below)
            self.same(holds(1, formula, (3, 2)), at)
            self.same(holds(1, formula, (2, 1)), above)
            self.same(holds(3, ("is", word, (0, 0, 0, -1)), (1, 2, 3, 4)), below)
            self.same(holds(3, ("is", word, (0, 0, 0, 0)), (1, 2, 3, 4)), at)
            self.same(holds(4, ("is", word, (1, 1, 1, 1, -9)), (1, 2, 3, 4, 1)), above)

    def test_not_and_or(self):
        yes, no = ("is", "eq", (0, 0)), ("is", "ne", (0, 0))
        for formula, wanted in ((("not", yes), False), (("not", no), True), (("and",), True), (("or",), False),
                                (("and", yes), True), (("and", yes, no, yes), False), (("and", yes, yes), True),
                                (("or", no), False), (("or", no, yes, no), True), (("or", no, no), False),
                                (("not", ("and",)), False), (("not", ("or",)), True), (("or", ("and",)), True)):
            self.same(holds(1, formula, (5, 7)), wanted)

    def test_back(self):
        # The point (x + y, x - 1) lies on the line of points with equal coordinates.
        formula = ("back", ((1, 1, 0), (1, 0, -1)), ("is", "eq", (1, -1, 0)))
        self.same(holds(2, formula, (7, -1, 1)), True)
        self.same(holds(2, formula, (7, -3, 3)), True)
        self.same(holds(2, formula, (7, -1, 3)), False)
        self.same(holds(1, ("back", ((1, 0),) * 4, ("is", "gt", (1, 1, 1, 1, -6))), (3, 2)), False)
        self.same(holds(1, ("back", ((1, 0),) * 4, ("is", "gt", (1, 1, 1, 1, -6))), (5, 3)), True)
        self.same(holds(dimension=4, point=(1, 2, 3, 4, 1), formula=("back", ((1, 2, 3, 4, 5),),
                                                                     ("is", "eq", (1, -35)))), True)

    def test_some_and_every(self):
        between = ("and", ("is", "lt", (1, -1, 0)), ("is", "gt", (2, -1, 0)))
        for point, wanted in (((1, 1), True), ((1, 100), True), ((0, 1), False), ((-1, 1), False)):
            self.same(holds(1, ("some", between), point), wanted)
            self.same(holds(1, ("every", ("not", between)), point), not wanted)
            self.same(holds(1, ("not", ("every", ("not", between))), point), wanted)
        self.same(holds(1, ("some", ("and",)), (0, 1)), True)
        self.same(holds(1, ("some", ("or",)), (0, 1)), False)
        self.same(holds(1, ("every", ("and",)), (0, 1)), True)
        self.same(holds(1, ("every", ("or",)), (0, 1)), False)

    def test_values_are_of_any_kind_not_only_integers(self):
        half = ("some", ("and", ("is", "eq", (1, -2, 0))))
        self.same(holds(1, half, (1, 1)), True)
        strictly_inside = ("some", ("and", ("is", "gt", (0, 1, 0)), ("is", "lt", (0, 1000000, -1))))
        self.same(holds(1, strictly_inside, (0, 1)), True)

    def test_strict_and_not_strict_ends(self):
        for low, high, wanted in (("ge", "le", True), ("gt", "le", False), ("ge", "lt", False), ("gt", "lt", False)):
            formula = ("some", ("and", ("is", low, (0, 1, -1)), ("is", high, (0, 1, -1))))
            self.same(holds(1, formula, (0, 1)), wanted)

    def test_far_ends(self):
        for word, row in (("gt", (0, 1, -1000000)), ("lt", (0, 1, 1000000)), ("gt", (1, -1, -1000000))):
            self.same(holds(1, ("some", ("is", word, row)), (7, 1)), True)
            self.same(holds(1, ("every", ("is", word, row)), (7, 1)), False)

    def test_nested(self):
        greater = ("is", "gt", (0, -1, 1, 0))
        self.same(holds(1, ("every", ("some", greater)), (0, 1)), True)
        self.same(holds(1, ("some", ("every", greater)), (0, 1)), False)
        # Each z that is below y is below x: just for y <= x.
        formula = ("every", ("or", ("is", "ge", (0, -1, 1, 0)), ("is", "lt", (-1, 0, 1, 0))))
        self.same(holds(2, formula, (1, 1, 1)), True)
        self.same(holds(2, formula, (2, 1, 3)), True)
        self.same(holds(2, formula, (1, 2, 3)), False)
        # Some y and z are above x, add up to 3 x, and y is below z: just for x above 0.
        formula = ("some", ("some", ("and", ("is", "lt", (1, -1, 0, 0)), ("is", "lt", (1, 0, -1, 0)),
                                     ("is", "eq", (3, -1, -1, 0)), ("is", "lt", (0, 1, -1, 0)))))
        for point, wanted in (((1, 5), True), ((0, 1), False), ((-1, 5), False)):
            self.same(holds(1, formula, point), wanted)

    def test_up_to_dimension_4(self):
        # x < y < z < u, and u < x + 1 or not.
        chain = (("is", "lt", (1, -1, 0, 0, 0)), ("is", "lt", (0, 1, -1, 0, 0)), ("is", "lt", (0, 0, 1, -1, 0)))
        for last, wanted in ((("is", "lt", (-1, 0, 0, 1, -1)), True), (("is", "lt", (-1, 0, 0, 1, 0)), False)):
            self.same(holds(1, ("some", ("some", ("some", ("and",) + chain + (last,)))), (1, 3)), wanted)
        self.same(holds(3, ("some", ("and",) + chain), (1, 2, 3, 1)), True)
        self.same(holds(3, ("some", ("and",) + chain), (1, 2, 2, 1)), False)

    def test_free_formulas_told_anew(self):
        for dimension in (1, 2, 3, 4):
            for formula in small_formulas(dimension, 80, 5, FREE + ("back",), 260 + dimension):
                for point in small_points(dimension, 8, 11):
                    self.same(holds(dimension, formula, point), free_truth(formula, numbers_at(point)))

    def test_one_quantifier_told_anew(self):
        for dimension in (1, 2, 3):
            for inside in small_formulas(dimension + 1, 80, 4, FREE, 280 + dimension):
                for point in small_points(dimension, 6, 13):
                    numbers = numbers_at(point)
                    found = [free_truth(inside, numbers + [t]) for t in values_that_tell(inside, numbers)]
                    self.same(holds(dimension, ("some", inside), point), any(found))
                    self.same(holds(dimension, ("every", inside), point), all(found))

    def test_without_not_holds_at_the_same_points(self):
        for dimension in (1, 2, 3):
            for formula in small_formulas(dimension, 40, 5, ALL, 300 + dimension):
                other = without_not(formula)
                self.assertNotIn('"not"', repr(other).replace("'", '"'))
                check_formula(dimension, other)
                for point in small_points(dimension, 5, 15):
                    self.same(holds(dimension, other, point), holds(dimension, formula, point))

    def test_some_holds_if_any_value_does(self):
        random = Random(4)
        for dimension in (1, 2):
            for inside in small_formulas(dimension + 1, 50, 4, ALL, 320 + dimension):
                for point in small_points(dimension, 4, 17):
                    some = holds(dimension, ("some", inside), point)
                    every = holds(dimension, ("every", inside), point)
                    self.assertEqual(holds(dimension, ("not", ("some", ("not", inside))), point), every)
                    for _ in range(4):
                        value = Fraction(random.randint(-9, 9), random.randint(1, 4))
                        there = point_of(tuple(pair(x) for x in numbers_at(point) + [value]))
                        is_held = holds(dimension + 1, inside, there)
                        self.assertTrue(some or not is_held)
                        self.assertTrue(is_held or not every)

    def test_great_numbers(self):
        self.same(holds(1, ("is", "eq", (OTHER_BIG, -BIG)), (BIG, OTHER_BIG)), True)
        self.same(holds(1, ("is", "lt", (OTHER_BIG, -BIG)), (BIG - 1, OTHER_BIG)), True)
        self.same(holds(1, ("some", ("is", "eq", (BIG, -OTHER_BIG, 1))), (BIG, 1)), True)

    def test_more_words_than_a_formula_that_is_passed_in(self):
        formula = ("or",) + (("and", ("is", "lt", (BIG, 1)), ("is", "gt", (1, BIG))),) * 150
        self.same(looked_at(1, formula), ((1, BIG), (BIG, 1)))
        self.same(holds(1, formula, (-1, 1)), True)
        self.same(holds(1, formula, (0, 1)), False)

    def test_too_many_planes(self):
        just, more = with_looked_at(200), with_looked_at(201)
        self.same(holds(1, ("or", ("and",), just), (0, 1)), True)
        self.refused(TooGreat, holds, 1, more, (0, 1), most=200)
        # It is raised also where other parts settle the whole.
        self.refused(TooGreat, holds, 1, ("or", ("and",), more), (0, 1), most=200)
        self.refused(TooGreat, holds, 1, ("and", ("or",), more), (0, 1), most=200)
        self.refused(TooGreat, holds, 2, ("back", ((0, 0, 3),), more), (0, 0, 1), most=200)
        self.refused(TooGreat, holds, 1, ("and", just, ("is", "lt", (1, 5000))), (0, 1), most=200)


class Witness(SolidCase):

    def test_worked_by_hand(self):
        between = ("and", ("is", "lt", (1, -1, 0)), ("is", "gt", (2, -1, 0)))
        self.same(witness(1, ("some", between), (3, 2)), (9, 4))
        self.assertIsNone(witness(1, ("some", between), (0, 1)))
        self.same(witness(1, ("every", between), (3, 2)), (1, 2))
        self.same(witness(1, ("every", ("not", between)), (3, 2)), (9, 4))
        self.assertIsNone(witness(1, ("every", ("not", between)), (-1, 1)))
        self.same(witness(1, ("some", ("and",)), (5, 1)), (0, 1))
        self.assertIsNone(witness(1, ("some", ("or",)), (5, 1)))
        self.same(witness(1, ("every", ("or",)), (5, 1)), (0, 1))
        self.assertIsNone(witness(1, ("every", ("and",)), (5, 1)))
        self.same(witness(1, ("some", ("is", "ge", (0, 1, -4))), (5, 1)), (4, 1))
        self.same(witness(1, ("some", ("is", "gt", (0, 1, -4))), (5, 1)), (5, 1))
        self.same(witness(1, ("every", ("is", "lt", (0, 1, -4))), (5, 1)), (4, 1))
        self.same(witness(dimension=2, formula=("some", ("is", "eq", (1, 1, -3, 1))), point=(1, 1, 2)), (2, 3))

    def test_nested(self):
        # Some y is above x, and z half of it: 1, 2 and 3 are tried for y at x = 2.
        inside = ("and", ("is", "lt", (1, -1, 0, 0)), ("is", "eq", (0, 1, -2, 0)))
        self.same(witness(1, ("some", ("some", inside)), (2, 1)), (3, 1))
        self.same(witness(1, ("every", ("some", inside)), (2, 1)), (1, 1))

    def test_the_first_of_enough(self):
        for dimension in (1, 2):
            for inside in small_formulas(dimension + 1, 60, 4, ALL, 340 + dimension):
                for point in small_points(dimension, 3, 19):
                    values = enough(dimension, inside, point)
                    there = [point_of(tuple(pair(x) for x in numbers_at(point) + [told(v)])) for v in values]
                    is_held = [holds(dimension + 1, inside, check_point(dimension + 1, p)) for p in there]
                    for word, wanted in (("some", True), ("every", False)):
                        first = values[is_held.index(wanted)] if wanted in is_held else None
                        self.same(witness(dimension, (word, inside), point), first)
                    self.same(holds(dimension, ("some", inside), point), True in is_held)

    def test_other_formulas_are_refused(self):
        some = ("some", ("and",))
        for formula in (("is", "lt", (1, 1)), ("not", some), ("and", some), ("or", some), ("and",), ("or",),
                        ("back", ((1, 0),), some)):
            self.refused(NotFormula, witness, 1, formula, (0, 1), path=())

    def test_too_many_planes(self):
        self.same(witness(1, with_looked_at(200), (0, 1)), (524288, 1))
        inside = with_looked_at(201)[1]
        # The planes of the part are few, only those of the whole too many.
        self.assertEqual(len(looked_at(2, inside)), 31)
        for word in ("some", "every"):
            self.refused(TooGreat, witness, 1, (word, inside), (0, 1), most=200)
        self.refused(TooGreat, witness, 1, ("some", ("back", ((0, 0, 3),), with_looked_at(201))), (0, 1), most=200)
        # Another formula is refused ahead of that.
        self.refused(NotFormula, witness, 1, ("not", with_looked_at(201)), (0, 1), path=())


if __name__ == "__main__":
    unittest.main()
