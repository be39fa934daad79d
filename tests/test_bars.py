"""Promises [21] and [26]: bars, and what lies between two systems."""

import unittest
from fractions import Fraction
from itertools import combinations
from random import Random

from anew import has_points, some_system, some_systems
from helping import BIG, NO_TUPLES, OTHER_BIG, SolidCase, pair, told
from making import small_points
from onesolid.bars import common_or_between, check_between, few_bar, is_bar, least_barred, point_or_bar
from onesolid.errors import NotPaper
from onesolid.points import check_point
from onesolid.rows import value_at
from onesolid.systems import holds_all

ZERO, ONE = (0, 1), (1, 1)
# Values that are no fractions, among them some that are equal to one of Python's.
NO_FRACTIONS = (0, 1, 1.0, None, True, "1", (), (1,), (1, 1, 1), [1, 1], (True, 1), (1, True), (2, 2), (0, 2), (1, 0),
                (1, -1), (1.0, 1), ("1", 1), Fraction(1))


def bar_anew(system, weights):
    """Whether fractions, as many as pairs, are a bar of a system."""
    weights = [told(weight) for weight in weights]
    total = [sum(weight * row[k] for weight, (_, row) in zip(weights, system)) for k in range(len(system[0][1]))]
    if any(weight < 0 and word != "eq" for weight, (word, _) in zip(weights, system)) or any(total[:-1]):
        return False
    return total[-1] < 0 or (total[-1] == 0 and any(weight > 0 and word == "gt"
                                                    for weight, (word, _) in zip(weights, system)))


def cross(dimension):
    """A system with one least lot of dimension + 1 pairs: all coordinates above 0, their sum below 1, and so on."""
    pairs = [("ge", tuple(int(place == own) for own in range(dimension)) + (0,)) for place in range(dimension)]
    return tuple(pairs) + (("ge", (-1,) * dimension + (-1,)),)


class PointOrBar(SolidCase):

    def judged(self, dimension, system):
        """What the system tells, checked; its word."""
        word, found = point_or_bar(dimension, system)
        self.same(point_or_bar(dimension=dimension, system=system), (word, found))
        few = few_bar(dimension, system)
        if word == "point":
            check_point(dimension, found)
            self.assertTrue(holds_all(dimension, system, found))
            self.assertIsNone(few)
        else:
            self.assertEqual(word, "bar")
            for weights in (found, few):
                self.assertIs(is_bar(dimension, system, weights), True)
                self.assertTrue(bar_anew(system, weights))
            self.assertLessEqual(sum(weight != (0, 1) for weight in few), dimension + 1)
        return word

    def test_worked_by_hand(self):
        self.assertEqual(self.judged(1, ()), "point")
        self.assertEqual(self.judged(1, (("ge", (1, 0)), ("ge", (-1, 0)))), "point")
        self.same(point_or_bar(1, (("ge", (1, 0)), ("ge", (-2, 0)))), ("point", (0, 1)))
        self.same(point_or_bar(1, (("eq", (3, -2)),)), ("point", (2, 3)))
        self.assertEqual(self.judged(1, (("ge", (1, -3)), ("ge", (-2, 5)))), "bar")

    def test_open_pairs_alone_keep_all_points_out(self):
        for dimension in (1, 2, 3, 4):
            unit = (1,) + (0,) * (dimension - 1)
            other = (-1,) + (0,) * (dimension - 1)
            self.assertEqual(self.judged(dimension, (("ge", unit + (0,)), ("ge", other + (0,)))), "point")
            for words in (("gt", "ge"), ("ge", "gt"), ("gt", "gt"), ("gt", "eq"), ("eq", "gt")):
                self.assertEqual(self.judged(dimension, ((words[0], unit + (0,)), (words[1], other + (0,)))), "bar")
            closed = tuple(("ge", row[:-1] + (0,)) for _, row in cross(dimension))
            self.assertEqual(self.judged(dimension, closed), "point")
            for place in range(dimension + 1):
                open_there = closed[:place] + (("gt", closed[place][1]),) + closed[place + 1:]
                self.assertEqual(self.judged(dimension, open_there), "bar")

    def test_rows_without_coefficients(self):
        for dimension in (1, 2, 3, 4):
            noughts = (0,) * dimension
            for word, number, wanted in (("gt", 0, "bar"), ("gt", 1, "point"), ("ge", 0, "point"), ("ge", -1, "bar"),
                                         ("eq", 0, "point"), ("eq", 5, "bar"), ("eq", -5, "bar")):
                self.assertEqual(self.judged(dimension, ((word, noughts + (number,)),)), wanted)
                self.assertEqual(self.judged(dimension, (("ge", (1,) * dimension + (1,)), (word, noughts + (number,)))),
                                 wanted)

    def test_equations(self):
        self.assertEqual(self.judged(2, (("eq", (1, 1, -2)), ("eq", (1, -1, 0)), ("eq", (2, 0, -2)))), "point")
        self.assertEqual(self.judged(2, (("eq", (1, 1, -2)), ("eq", (1, -1, 0)), ("eq", (2, 0, -3)))), "bar")
        self.assertEqual(self.judged(2, (("eq", (1, 1, -2)), ("eq", (1, -1, 0)), ("gt", (-2, 0, 2)))), "bar")

    def test_some_systems(self):
        words = []
        for dimension in (1, 2, 3, 4):
            for system in some_systems(dimension, 150, 50 + dimension):
                word = self.judged(dimension, system)
                self.assertEqual(word == "point", has_points(system, dimension))
                words.append(word)
        self.assertGreater(min(words.count("point"), words.count("bar")), 100)

    def test_as_many_pairs_as_may_be(self):
        random = Random(1)
        for dimension, most in ((1, 60), (2, 60), (3, 24), (4, 12)):
            for sign in (1, -1):
                system = []
                for _ in range(most):
                    row = [random.randint(-50, 50) for _ in range(dimension)]
                    system.append((random.choice(("gt", "ge")), tuple(row) + (sign * (1 + sum(map(abs, row))),)))
                self.assertEqual(self.judged(dimension, tuple(system)), "point" if sign == 1 else "bar")

    def test_great_numbers(self):
        self.assertEqual(self.judged(2, (("gt", (BIG, -1, 0)), ("gt", (-BIG, 1, OTHER_BIG)))), "point")
        self.assertEqual(self.judged(2, (("gt", (BIG, -1, 0)), ("ge", (-BIG * OTHER_BIG, OTHER_BIG, 0)))), "bar")
        self.same(point_or_bar(1, (("eq", (BIG, -OTHER_BIG)),)), ("point", (OTHER_BIG, BIG)))


class IsBar(SolidCase):
    system = (("ge", (1, 0)), ("gt", (-1, 0)), ("eq", (2, 1)), ("ge", (-2, -1)))

    def test_bars(self):
        for weights in ((ONE, ONE, ZERO, ZERO), ((1, 3), (1, 3), ZERO, ZERO), ((2, 1), ZERO, (-1, 1), ZERO),
                        ((4, 1), ZERO, (-2, 1), ZERO), ((2, 1), ZERO, ZERO, ONE)):
            with self.subTest(weights):
                self.assertTrue(bar_anew(self.system, weights))
                self.same(is_bar(1, self.system, weights), True)
        self.same(is_bar(dimension=1, system=self.system, weights=(ONE, ONE, ZERO, ZERO)), True)

    def test_no_bars(self):
        # Negative at "ge" and at "gt"; coefficients left; a last number of 0 without "gt", or above 0.
        for weights in (((-1, 1), (-1, 1), ZERO, ZERO), (ZERO, (-2, 1), (-1, 1), ZERO), (ZERO,) * 4,
                        (ONE, ZERO, ZERO, ZERO), (ZERO, ZERO, ONE, ONE), (ZERO, (2, 1), ONE, ZERO),
                        (ONE, (1, 2), ZERO, ZERO), (ZERO, ZERO, ZERO, ONE), ((-2, 1), ZERO, ONE, ZERO)):
            with self.subTest(weights):
                self.same(is_bar(1, self.system, weights), False)
        self.same(is_bar(1, (), ()), False)

    def test_one_pair_without_coefficients(self):
        for word, number, weight, wanted in (
                ("gt", 0, 1, True), ("gt", 0, 0, False), ("gt", 0, -1, False), ("gt", -2, 1, True),
                ("gt", 2, 1, False), ("gt", 2, -1, False), ("ge", 0, 1, False), ("ge", -1, 1, True),
                ("ge", -1, 0, False), ("ge", 1, -1, False), ("eq", 1, -1, True), ("eq", 1, 1, False),
                ("eq", -1, 1, True), ("eq", -1, -1, False), ("eq", 0, 1, False)):
            self.same(is_bar(2, ((word, (0, 0, number)),), ((weight, 7),) if weight else (ZERO,)), wanted)

    def test_each_coefficient_counts(self):
        for dimension in (2, 3, 4):
            for place in range(dimension):
                row = [0] * dimension
                row[place] = 1
                system = (("ge", tuple(row) + (-2,)), ("gt", tuple(-number for number in row) + (1,)))
                self.same(is_bar(dimension, system, (ONE, ONE)), True)
                self.same(is_bar(dimension, system, (ONE, ZERO)), False)
                self.same(is_bar(dimension, system, (ONE, (2, 1))), False)

    def test_what_is_no_tuple_of_fractions(self):
        for value in NO_TUPLES + ((), (ONE,), (ONE,) * 3, (ONE,) * 5, [ONE, ONE, ZERO, ZERO]):
            self.same(is_bar(1, self.system, value), False)
        for value in NO_FRACTIONS:
            self.same(is_bar(1, self.system, (ONE, ONE, value, ZERO)), False)
            self.same(is_bar(1, self.system, (value, value, ZERO, ZERO)), False)
        self.same(is_bar(1, self.system, (ONE, ONE, ZERO, ZERO)), True)

    def test_any_weights(self):
        random = Random(4)
        found = 0
        for system in some_systems(1, 300, 60):
            for _ in range(10 if system else 0):
                weights = tuple(pair(random.choice((0, 0, 1, 2, -1, Fraction(1, 2)))) for _ in system)
                self.same(is_bar(1, system, weights), bar_anew(system, weights))
                found += bar_anew(system, weights)
        self.assertGreater(found, 20)


class LeastBarred(SolidCase):

    def lots_anew(self, dimension, system):
        barred = []
        for many in range(1, dimension + 2):
            for lot in combinations(range(len(system)), many):
                if not any(set(one) < set(lot) for one in barred):
                    if not has_points([system[number] for number in lot], dimension):
                        barred.append(lot)
        return tuple(sorted(barred))

    def test_worked_by_hand(self):
        self.same(least_barred(1, ()), ())
        self.same(least_barred(1, (("ge", (1, 0)), ("ge", (-1, 0)))), ())
        self.same(least_barred(1, (("ge", (1, 0)), ("gt", (-1, 0)), ("ge", (1, 4)), ("ge", (1, -2)))), ((0, 1), (1, 3)))
        self.same(least_barred(2, (("gt", (0, 0, 0)), ("ge", (1, 0, 0)), ("eq", (0, 0, 1)))), ((0,), (2,)))
        self.same(least_barred(dimension=1, system=(("gt", (-1, 0)), ("eq", (1, -1)), ("eq", (2, -1)))),
                  ((0, 1), (0, 2), (1, 2)))

    def test_lots_of_just_so_many(self):
        for dimension in (1, 2, 3, 4):
            self.same(least_barred(dimension, cross(dimension)), (tuple(range(dimension + 1)),))
            longer = cross(dimension)[:1] + (("ge", (0,) * dimension + (1,)),) + cross(dimension)[1:]
            self.same(least_barred(dimension, longer), ((0,) + tuple(range(2, dimension + 2)),))

    def test_a_lot_with_more_than_is_needed_is_none(self):
        # Three lines through one point; each open half plane beyond two of them is barred already by fewer.
        system = (("gt", (1, 0, 0)), ("gt", (-1, 0, 0)), ("gt", (0, 1, 0)), ("gt", (0, -1, 0)), ("gt", (-1, -1, 0)))
        self.same(least_barred(2, system), self.lots_anew(2, system))
        self.same(least_barred(2, system), ((0, 1), (0, 2, 4), (2, 3)))

    def test_some_systems(self):
        many = 0
        for dimension in (1, 2, 3, 4):
            for system in some_systems(dimension, 60, 70 + dimension):
                found = least_barred(dimension, system)
                self.same(found, self.lots_anew(dimension, system))
                self.assertEqual(bool(found), not has_points(system, dimension))
                many += len(found)
        self.assertGreater(many, 90)


class Between(SolidCase):

    def judged(self, dimension, system, other):
        paper = common_or_between(dimension, system, other)
        self.same(common_or_between(dimension=dimension, system=system, other=other), paper)
        self.same(check_between(dimension, system, other, paper), paper[0])
        if paper[0] == "common":
            self.assertEqual(len(paper), 2)
            check_point(dimension, paper[1])
            self.assertTrue(holds_all(dimension, system, paper[1]) and holds_all(dimension, other, paper[1]))
        else:
            self.assertEqual((paper[0], len(paper[1]), len(paper[2])), ("between", len(system), len(other)))
            self.assertTrue(bar_anew(system + other, paper[1] + paper[2]))
        return paper

    def test_worked_by_hand(self):
        closed = (("ge", (1, 0, 0)), ("ge", (0, 1, 0)), ("ge", (-1, -1, 1)))
        beside = (("ge", (1, 0, -1)), ("ge", (0, 1, 0)))
        # They touch at one point.
        self.same(self.judged(2, closed, beside), ("common", (1, 0, 1)))
        self.assertEqual(self.judged(2, closed, (("gt", (1, 0, -1)),))[0], "between")
        self.assertEqual(self.judged(2, closed[:2] + (("gt", (-1, -1, 1)),), beside)[0], "between")
        self.assertEqual(self.judged(2, closed[:2] + (("gt", (-1, -1, 1)),), (("gt", (2, 0, -1)),))[0], "common")
        self.assertEqual(self.judged(2, (), ())[0], "common")
        self.assertEqual(self.judged(2, (), (("ge", (0, 0, -1)),))[0], "between")

    def test_one_holds_nowhere(self):
        nowhere = (("gt", (1, 0)), ("gt", (-1, 0)))
        for other in ((), (("ge", (1, 0)),), nowhere):
            self.assertEqual(self.judged(1, nowhere, other)[0], "between")
            self.assertEqual(self.judged(1, other, nowhere)[0], "between")

    def test_some_systems(self):
        random = Random(5)
        words = []
        for dimension in (1, 2, 3, 4):
            for system in some_systems(dimension, 60, 80 + dimension):
                other = some_system(random, dimension, random.randint(0, 4))
                paper = self.judged(dimension, system, other)
                self.assertEqual(paper[0] == "common", has_points(system + other, dimension))
                words.append(paper[0])
                if paper[0] == "between":
                    self.parts(dimension, system, other, paper[1])
        self.assertGreater(min(words.count("common"), words.count("between")), 50)

    def parts(self, dimension, system, other, first):
        """The sum of the first rows has greater values on the first set than on the other one."""
        row = [sum(told(weight) * own[k] for weight, (_, own) in zip(first, system)) for k in range(dimension + 1)]
        scale = 1
        for number in row:
            scale *= number.denominator
        row = tuple(int(number * scale) for number in row)
        points = small_points(dimension, 60, 6)
        ours = [value_at(row, point) for point in points if holds_all(dimension, system, point)]
        theirs = [value_at(row, point) for point in points if holds_all(dimension, other, point)]
        for one in ours:
            for two in theirs:
                self.assertGreater(told(one), told(two))

    def test_more_pairs_together_than_one_system_may_have(self):
        system = (("ge", (1, 0)),) * 60
        self.assertEqual(self.judged(1, system, system)[0], "common")
        self.assertEqual(self.judged(1, system, (("ge", (-1, -1)),) * 60)[0], "between")

    def test_papers_bent(self):
        system, other = (("ge", (1, -2)), ("ge", (1, 0))), (("gt", (-1, 2)),)
        right = ("between", (ONE, ZERO), (ONE,))
        self.same(check_between(1, system, other, right), "between")
        self.same(check_between(dimension=1, system=system, other=other, paper=right), "between")
        for paper in (("between", (ZERO, ONE), (ONE,)), ("between", (ONE, ZERO), ((-1, 1),)),
                      ("between", (ONE, ZERO), (ZERO,)), ("between", ((1, 2), ZERO), (ONE,)),
                      ("between", ((2, 1), (-1, 1)), (ONE,)), ("between", (ZERO, ZERO), (ZERO,))):
            self.refused(NotPaper, check_between, 1, system, other, paper, word="between")
        for point in ((2, 1), (3, 1), (1, 1)):
            self.refused(NotPaper, check_between, 1, system, other, ("common", point), word="common")
        self.same(check_between(1, system, (("ge", (-1, 2)),), ("common", (2, 1))), "common")
        self.refused(NotPaper, check_between, 1, system, (("ge", (-1, 2)),), right, word="between")

    def test_no_papers(self):
        system, other = (("ge", (1, -2)), ("ge", (1, 0))), (("gt", (-1, 2)),)
        papers = NO_TUPLES + (
            (), ("between",), ("between", (ONE, ZERO)), ("between", (ONE, ZERO), (ONE,), ()),
            ["between", (ONE, ZERO), (ONE,)], ("bar", (ONE, ZERO), (ONE,)), ("Between", (ONE, ZERO), (ONE,)),
            ("common", (ONE, ZERO), (ONE,)), (None, (ONE, ZERO), (ONE,)), ([], (2, 1)), ("between", (2, 1)),
            ("between", (ONE,), (ZERO, ONE)), ("between", (ONE, ZERO), (ONE, ZERO)), ("between", (ONE,), (ONE,)),
            ("between", [ONE, ZERO], (ONE,)), ("between", (ONE, ZERO), [ONE]), ("between", (ONE, ZERO), ONE),
            ("common",), ("common", None), ("common", (2,)), ("common", (2, 0)), ("common", (2, 2)),
            ("common", (2, True)), ("common", (2, 1, 1)), ("common", [2, 1]), ("common", (2, 1), (2, 1)))
        for paper in papers:
            with self.subTest(repr(paper)):
                self.refused(NotPaper, check_between, 1, system, other, paper, word="form")
        for value in NO_FRACTIONS:
            for paper in (("between", (ONE, value), (ONE,)), ("between", (ONE, ZERO), (value,))):
                self.refused(NotPaper, check_between, 1, system, other, paper, word="form")


if __name__ == "__main__":
    unittest.main()
