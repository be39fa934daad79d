"""Promise [19]: systems, and where they hold."""

import unittest
from fractions import Fraction

from anew import is_so, some_systems
from helping import BIG, NO_INTEGERS, NO_TUPLES, SolidCase, numbers_at, worth
from making import small_points
from onesolid.bars import common_or_between, check_between, few_bar, is_bar, least_barred, point_or_bar
from onesolid.best import check_greatest, greatest, greatest_paper
from onesolid.bodies import body_of, needless, parting_of, same_set, set_within
from onesolid.errors import NotPoint, NotSystem
from onesolid.systems import check_system, first_broken, holds_all
from onesolid.taking import lifted, taken_out

MOST = {1: 60, 2: 60, 3: 24, 4: 12}
PAIR = ("ge", (1, 2))


def refused_systems():
    """Triples: a dimension, a value that is no system of it, and the number of the first wrong pair."""
    for value in NO_TUPLES + (list((PAIR,)),):
        yield 1, value, None
    for dimension, most in MOST.items():
        pair = ("gt", (0,) * dimension + (1,))
        yield dimension, (pair,) * (most + 1), None
        yield dimension, (pair,) * most + (None,), None
        yield dimension, (pair,) * (most - 1) + (None,), most - 1
        yield dimension, (pair, ("gt", (0,) * dimension), pair), 1
        yield dimension, (pair, pair, ("gt", (0,) * (dimension + 2))), 2
    for value in NO_TUPLES + ((), ("ge",), ((1, 2),), ((1, 2), "ge"), ("ge", (1, 2), 3), PAIR + PAIR, ["ge", (1, 2)]):
        yield 1, (value,), 0
        yield 1, (PAIR, value, value), 1
    for word in ("lt", "le", "ne", "GE", "", "g", "gte", None, 0, ("ge",), ["ge"], {}, b"ge", "ge "):
        yield 1, (PAIR, PAIR, (word, (1, 2))), 2
    for number in NO_INTEGERS:
        yield 1, (PAIR, ("eq", (number, 2))), 1
        yield 1, (PAIR, ("eq", (2, number))), 1
    for row in NO_TUPLES + ((), (1,), (1, 2, 3), [1, 2]):
        yield 1, (PAIR, ("eq", row)), 1


class CheckSystem(SolidCase):

    def test_systems(self):
        for dimension, most in MOST.items():
            for row in ((0,) * (dimension + 1), (BIG,) + (-3,) * dimension, (0,) * dimension + (-1,)):
                for word in ("gt", "ge", "eq"):
                    for many in (0, 1, 2, most):
                        system = ((word, row),) * many
                        self.assertIs(check_system(dimension, system), system)
        self.same(check_system(dimension=1, system=(PAIR,)), (PAIR,))

    def test_refused(self):
        for dimension, value, number in refused_systems():
            with self.subTest(repr(value)[:80]):
                self.refused(NotSystem, check_system, dimension, value, number=number)

    def test_all_functions_judge_their_systems(self):
        """Ahead of all else that is wrong."""
        good = ()
        for dimension, value, number in ((1, None, None), (2, (PAIR,), 0), (2, (("ge", (1, 2, 3)), 7), 1),
                                         (3, (("ge", (1, 2, 3, True)),), 0), (1, (PAIR,) * 61, None)):
            for call, args in ((holds_all, (None,)), (first_broken, (None,)), (taken_out, ()), (lifted, (None,)),
                               (point_or_bar, ()), (is_bar, (None,)), (few_bar, ()), (least_barred, ()),
                               (greatest, (None,)), (greatest_paper, (None,)), (check_greatest, (None, None)),
                               (body_of, ()), (same_set, (good,)), (set_within, (good,)), (parting_of, (good,)),
                               (needless, ()), (common_or_between, (good,)), (check_between, (good, None))):
                with self.subTest(call.__name__):
                    self.refused(NotSystem, call, dimension, value, *args, number=number)
            for call, args in ((same_set, ()), (set_within, ()), (parting_of, ()), (common_or_between, ()),
                               (check_between, (None,))):
                with self.subTest(call.__name__):
                    self.refused(NotSystem, call, dimension, good, value, *args, number=number)
                    self.refused(NotSystem, call, dimension, (3,), value, *args, number=0)


class Holding(SolidCase):

    def test_worked_by_hand(self):
        system = (("ge", (1, 0, 0)), ("gt", (0, 1, 0)), ("eq", (1, 1, -2)))
        self.same(first_broken(2, system, (1, 1, 1)), None)
        self.same(first_broken(2, system, (-1, 3, 1)), 0)
        self.same(first_broken(2, system, (2, 0, 1)), 1)
        self.same(first_broken(2, system, (-1, -1, 1)), 0)
        self.same(first_broken(2, system, (1, 2, 1)), 2)
        self.same(first_broken(2, system, (1, 1, 2)), 2)
        self.same(first_broken(2, system, (1, 3, 2)), None)
        self.same(holds_all(2, system, (1, 1, 1)), True)
        self.same(holds_all(2, system, (2, 0, 1)), False)
        self.same(first_broken(dimension=1, system=(), point=(5, 3)), None)
        self.same(holds_all(dimension=1, system=(), point=(5, 3)), True)

    def test_rows_without_coefficients(self):
        for word, number, wanted in (("gt", 1, None), ("gt", 0, 0), ("gt", -1, 0), ("ge", 1, None), ("ge", 0, None),
                                     ("ge", -1, 0), ("eq", 1, 0), ("eq", 0, None), ("eq", -1, 0)):
            self.same(first_broken(3, ((word, (0, 0, 0, number)),), (1, 2, 3, 4)), wanted)

    def test_against_fractions(self):
        for dimension in (1, 2, 3, 4):
            points = small_points(dimension, 20, 4)
            for system in some_systems(dimension, 40, 20 + dimension):
                for point in points:
                    truths = [is_so(word, worth(row, numbers_at(point))) for word, row in system]
                    self.same(first_broken(dimension, system, point), truths.index(False) if False in truths else None)
                    self.same(holds_all(dimension, system, point), all(truths))

    def test_great_numbers(self):
        self.same(holds_all(1, (("gt", (BIG, -1)),), (1, BIG)), False)
        self.same(holds_all(1, (("gt", (BIG, -1)),), (2, BIG)), True)
        self.same(holds_all(1, (("eq", (BIG, -1)),), (1, BIG)), True)

    def test_no_point(self):
        for call in (holds_all, first_broken):
            for value in NO_TUPLES + ((), (1,), (1, 2, 3)):
                self.refused(NotPoint, call, 1, (PAIR,), value, place=-1)
            for value in NO_INTEGERS:
                self.refused(NotPoint, call, 2, (), (value, 0, 1), place=0)
                self.refused(NotPoint, call, 2, (), (0, 0, value), place=2)
            self.refused(NotPoint, call, 1, (PAIR,), (1, 0), place=1)
            self.refused(NotPoint, call, 1, (PAIR,), (2, 2), place=-2)
            self.refused(NotPoint, call, 1, (PAIR,), (Fraction(1), 1), place=0)


if __name__ == "__main__":
    unittest.main()
