"""Promise [20]: the last coordinate taken out of a system."""

import unittest
from fractions import Fraction
from math import gcd
from random import Random

from anew import has_points, is_so, lies_within, some_systems
from helping import BIG, NO_TUPLES, OTHER_BIG, SolidCase, numbers_at, pair, told, worth
from making import small_points
from onesolid.errors import NotPoint, TooGreat, Unlike
from onesolid.numbers import check_fraction
from onesolid.systems import check_system, holds_all
from onesolid.taking import lifted, taken_out


def least_anew(word, row):
    divisor = gcd(*row) or 1
    if word == "eq" and any(row) and next(number for number in row if number != 0) < 0:
        divisor = -divisor
    return word, tuple(number // divisor for number in row)


def taken_anew(system):
    """The system without its last coordinate, told anew as the document tells it."""
    solving = next((k for k, (word, row) in enumerate(system) if word == "eq" and row[-2] != 0), None)
    made = []
    if solving is not None:
        told_row = system[solving][1]
        last = told_row[-2]
        for k, (word, row) in enumerate(system):
            if k != solving:
                factor = -row[-2] * (1 if last > 0 else -1)
                made.append((word, tuple(abs(last) * a + factor * b for a, b in zip(row, told_row))))
    else:
        made += [(word, row) for word, row in system if row[-2] == 0]
        for word, row in system:
            if row[-2] > 0:
                for other_word, other in system:
                    if other[-2] < 0:
                        both = "gt" if word == "gt" or other_word == "gt" else "ge"
                        made.append((both, tuple(-other[-2] * a + row[-2] * b for a, b in zip(row, other))))
    left = []
    for word, row in made:
        assert row[-2] == 0
        fresh = least_anew(word, row[:-2] + row[-1:])
        idle = not any(fresh[1][:-1]) and is_so(word, fresh[1][-1])
        if not idle and fresh not in left:
            left.append(fresh)
    return tuple(left)


class TakenOut(SolidCase):

    def test_inequalities(self):
        self.same(taken_out(2, (("ge", (1, 2, 3)), ("gt", (1, -3, 4)))), (("gt", (5, 17)),))
        self.same(taken_out(2, (("ge", (1, 2, 3)), ("ge", (1, -3, 4)))), (("ge", (5, 17)),))
        self.same(taken_out(2, (("gt", (1, 2, 3)), ("ge", (1, -3, 4)))), (("gt", (5, 17)),))
        self.same(taken_out(2, (("gt", (0, -1, 4)), ("gt", (1, 1, 0)))), (("gt", (1, 4)),))

    def test_those_without_the_last_coordinate_come_first(self):
        system = (("gt", (0, 1, 0)), ("ge", (2, 0, 4)), ("gt", (-2, -1, 3)), ("eq", (-2, 0, 6)), ("ge", (0, 1, 7)))
        self.same(taken_out(2, system), (("ge", (1, 2)), ("eq", (1, -3)), ("gt", (-2, 3)), ("gt", (-1, 5))))

    def test_the_sequence_of_those_combined(self):
        ups = tuple(("ge", (k, 1, 0)) for k in (1, 2))
        downs = tuple(("ge", (k, -1, 0)) for k in (10, 20))
        self.same(taken_out(2, ups + downs), (("ge", (1, 0)),))
        ups = tuple(("ge", (1, 1, k)) for k in (1, 2))
        downs = tuple(("ge", (0, -1, k)) for k in (10, 20))
        self.same(taken_out(2, downs[:1] + ups[:1] + downs[1:] + ups[1:]),
                  tuple(("ge", (1, number)) for number in (11, 21, 12, 22)))

    def test_one_side_alone(self):
        for system in ((("gt", (1, 1, 3)), ("ge", (5, 2, 3))), (("gt", (1, -1, 3)), ("ge", (5, -2, 3))), ()):
            self.same(taken_out(2, system), ())
            self.same(taken_out(2, system + (("gt", (2, 0, 2)),)), (("gt", (1, 1)),))

    def test_equations(self):
        # At the value that the equation tells: y = 2 - x.
        for told_row in ((1, 1, -2), (-1, -1, 2)):
            system = (("ge", (0, 1, 0)), ("eq", told_row), ("gt", (0, -1, 5)), ("ge", (1, 0, 0)), ("eq", (1, 2, 3)))
            self.same(taken_out(2, system), (("ge", (-1, 2)), ("gt", (1, 3)), ("ge", (1, 0)), ("eq", (1, -7))))
        # The first with a last coefficient tells it; the others take part as rows.
        system = (("eq", (1, 0, -6)), ("eq", (1, 2, 0)), ("eq", (0, 3, 3)), ("gt", (0, 4, 0)))
        self.same(taken_out(2, system), (("eq", (1, -6)), ("eq", (1, -2)), ("gt", (-1, 0))))
        self.same(taken_out(2, (("eq", (0, -3, 3)), ("gt", (0, -2, 0)))), (("gt", (0, -1)),))
        # The numbers that come before they are divided are of no account, but the sign is.
        self.same(taken_out(2, (("ge", (2, 5, 4)), ("eq", (0, -3, 3)))), (("ge", (2, 9)),))

    def test_equations_without_the_last_coordinate_are_inequalities_as_others(self):
        system = (("eq", (-2, 0, -4)), ("ge", (0, 1, 0)), ("ge", (3, -1, 0)))
        self.same(taken_out(2, system), (("eq", (1, 2)), ("ge", (1, 0))))

    def test_pairs_that_hold_everywhere_go(self):
        for word, number in (("gt", 1), ("gt", 9), ("ge", 0), ("ge", 4), ("eq", 0)):
            self.same(taken_out(2, ((word, (0, 0, number)), ("gt", (1, 0, 0)))), (("gt", (1, 0)),))
        self.same(taken_out(2, (("ge", (0, 1, 0)), ("ge", (0, -2, 0)))), ())

    def test_pairs_that_hold_nowhere_stay(self):
        for word, number, wanted in (("gt", 0, 0), ("gt", -4, -1), ("ge", -5, -1), ("eq", 3, 1), ("eq", -3, 1)):
            self.same(taken_out(2, ((word, (0, 0, number)),)), ((word, (0, wanted)),))
        self.same(taken_out(2, (("ge", (0, 1, 0)), ("gt", (0, -2, 0)))), (("gt", (0, 0)),))

    def test_equal_pairs_stay_once(self):
        system = (("ge", (2, 0, 2)), ("gt", (1, 0, 1)), ("ge", (1, 0, 1)), ("eq", (-1, 0, -1)), ("eq", (3, 0, 3)))
        self.same(taken_out(2, system), (("ge", (1, 1)), ("gt", (1, 1)), ("eq", (1, 1))))

    def test_told_anew(self):
        for dimension in (2, 3, 4):
            for system in some_systems(dimension, 150, 30 + dimension):
                wanted = taken_anew(system)
                self.assertLess(len(wanted), 400)
                self.same(taken_out(dimension=dimension, system=system), wanted)
                if len(wanted) <= 12:
                    check_system(dimension - 1, wanted)
                self.assertEqual(has_points(wanted, dimension - 1), has_points(system, dimension))

    def test_great_numbers(self):
        self.same(taken_out(2, (("ge", (BIG, OTHER_BIG, 1)), ("gt", (1, -BIG, 0)))),
                  (("gt", (BIG * BIG + OTHER_BIG, BIG)),))
        self.same(taken_out(2, (("eq", (BIG, 0, 2 * BIG)), ("ge", (0, 0, BIG)))), (("eq", (1, 2)),))

    def test_dimension_1(self):
        self.refused(Unlike, taken_out, 1, ())
        self.refused(Unlike, taken_out, 1, (("ge", (1, 2)),))
        self.refused(Unlike, lifted, 1, (("ge", (1, 2)),), None)

    def test_just_so_many_pairs_as_may_remain(self):
        ups = tuple(("ge", (1, 1, 100 * k)) for k in range(20))
        downs = tuple(("ge", (0, -1, k)) for k in range(20))
        self.same(taken_out(2, ups + downs), tuple(("ge", (1, 100 * k + j)) for k in range(20) for j in range(20)))
        for more in (("ge", (1, 0, -7)), ("gt", (0, 0, -1)), ("gt", (1, 0, 0))):
            self.refused(TooGreat, taken_out, 2, ups + downs + (more,), most=400)
        for more in (("ge", (2, 0, 0)), ("gt", (0, 0, 1)), ("ge", (1, 1, 1900))):
            self.assertEqual(len(taken_out(2, ups + downs + (more,))), 400)
        self.refused(TooGreat, taken_out, 2, ups + downs + (("ge", (1, 1, 1901)),), most=400)
        with_equation = ups + downs + (("eq", (0, 1, 0)),)
        self.assertEqual(len(taken_out(2, with_equation)), 20)


class Lifted(SolidCase):

    def test_worked_by_hand(self):
        low, high = ("ge", (0, 1, -1)), ("ge", (1, -1, 0))
        self.same(lifted(2, (low, high), (5, 1)), (3, 1))
        self.same(lifted(2, (low, high), (1, 1)), (1, 1))
        self.same(lifted(2, (low, high), (0, 1)), None)
        self.same(lifted(2, (("gt", (0, 1, -1)), high), (1, 1)), None)
        self.same(lifted(2, (low, ("gt", (1, -1, 0))), (1, 1)), None)
        self.same(lifted(2, (low, ("gt", (1, -1, 0))), (4, 3)), (7, 6))
        self.same(lifted(2, (low, high, ("ge", (0, 2, -5)), ("gt", (0, -1, 3))), (9, 1)), (11, 4))

    def test_without_end(self):
        self.same(lifted(2, (("ge", (1, 2, -1)), ("gt", (0, 1, 5))), (0, 1)), (3, 2))
        self.same(lifted(2, (("ge", (1, -2, -1)),), (0, 1)), (-3, 2))
        self.same(lifted(2, (("gt", (1, 0, 0)),), (3, 1)), (0, 1))
        self.same(lifted(2, (("gt", (1, 0, 0)),), (0, 1)), None)
        self.same(lifted(3, (), (1, 2, 7)), (0, 1))
        self.same(lifted(2, (("gt", (0, 0, 0)),), (3, 1)), None)
        self.same(lifted(2, (("gt", (0, 1, 0)), ("eq", (1, 0, -1))), (3, 1)), None)
        self.same(lifted(2, (("gt", (0, 1, 0)), ("eq", (1, 0, -1))), (1, 1)), (1, 1))

    def test_equations(self):
        self.same(lifted(2, (("ge", (0, 1, -9)), ("eq", (1, 0, -1)), ("eq", (1, -3, 0))), (1, 1)), None)
        self.same(lifted(2, (("ge", (0, 1, 9)), ("eq", (1, 0, -1)), ("eq", (1, -3, 0))), (1, 1)), (1, 3))
        self.same(lifted(2, (("eq", (1, -3, 0)), ("eq", (0, 3, -1))), (1, 1)), (1, 3))
        self.same(lifted(2, (("eq", (1, -3, 0)), ("eq", (0, 3, -1))), (2, 1)), None)
        self.same(lifted(dimension=2, system=(("eq", (0, -3, 1)), ("gt", (0, -3, 1))), point=(2, 1)), None)

    def test_great_numbers(self):
        self.same(lifted(2, (("eq", (1, -BIG, 0)),), (1, OTHER_BIG)), pair(Fraction(1, BIG * OTHER_BIG)))

    def test_told_anew(self):
        for dimension in (2, 3, 4):
            points = small_points(dimension - 1, 25, dimension)
            for system in some_systems(dimension, 120, 40 + dimension):
                below = taken_out(dimension, system)
                for point in points:
                    found = lifted(dimension, system, point)
                    holds_below = all(is_so(word, worth(row, numbers_at(point))) for word, row in below)
                    self.assertEqual(found is not None, holds_below)
                    if found is not None:
                        check_fraction(found)
                        numbers = numbers_at(point) + [told(found)]
                        self.assertTrue(all(is_so(word, worth(row, numbers)) for word, row in system))
                        self.assertEqual(told(found), self.middle(system, numbers_at(point)))

    def middle(self, system, numbers):
        """The value to be returned where there is one."""
        for word, row in system:
            if word == "eq" and row[-2] != 0:
                return -worth(row, numbers + [0]) / row[-2]
        lows = [-worth(row, numbers + [0]) / row[-2] for word, row in system if row[-2] > 0]
        highs = [-worth(row, numbers + [0]) / row[-2] for word, row in system if row[-2] < 0]
        if lows and highs:
            return (max(lows) + min(highs)) / 2
        return max(lows) + 1 if lows else min(highs) - 1 if highs else 0

    def test_no_point(self):
        for value in NO_TUPLES + ((), (1,), (1, 2, 3)):
            self.refused(NotPoint, lifted, 2, (), value, place=-1)
        self.refused(NotPoint, lifted, 2, (), (True, 1), place=0)
        self.refused(NotPoint, lifted, 3, (), (1, 2, 0), place=2)
        self.refused(NotPoint, lifted, 3, (), (2, 2, 2), place=-2)

    def test_what_is_taken_out_holds_where_the_system_does(self):
        random = Random(8)
        for system in some_systems(3, 60, 9):
            below = taken_out(3, system)
            raised = tuple((word, row[:2] + (0,) + row[2:]) for word, row in below)
            self.assertTrue(lies_within(system, raised, 3))
            value = tuple(random.randint(-3, 3) for _ in range(3)) + (1,)
            if holds_all(3, system, value):
                self.assertIsNotNone(lifted(3, system, value[:2] + (1,)))


if __name__ == "__main__":
    unittest.main()
