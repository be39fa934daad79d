"""Promise [9]: fractions."""

import unittest
from fractions import Fraction

from helping import BIG, NO_INTEGERS, NO_TUPLES, OTHER_BIG, SolidCase, pair
from onesolid.errors import NotNumber
from onesolid.numbers import added, check_fraction, compared, divided, halfway, lowest, minus, times

SOME = [Fraction(top, bottom) for top in (-7, -4, -1, 0, 1, 3, 10) for bottom in (1, 2, 3, 12)]
SOME += [Fraction(BIG, OTHER_BIG), Fraction(-BIG, 6), Fraction(14, OTHER_BIG), Fraction(BIG + 1, BIG)]


class Numbers(SolidCase):

    def test_lowest(self):
        self.same(lowest(6, 4), (3, 2))
        self.same(lowest(-6, 4), (-3, 2))
        self.same(lowest(6, -4), (-3, 2))
        self.same(lowest(-6, -4), (3, 2))
        self.same(lowest(5, 1), (5, 1))
        self.same(lowest(5, -1), (-5, 1))
        self.same(lowest(5, 5), (1, 1))
        self.same(lowest(1, 7), (1, 7))
        self.same(lowest(top=2, bottom=4), (1, 2))

    def test_lowest_of_nought(self):
        for bottom in (1, -1, 7, -7, BIG, -BIG):
            self.same(lowest(0, bottom), (0, 1))

    def test_lowest_of_great_integers(self):
        self.same(lowest(BIG * OTHER_BIG, BIG * 5), (OTHER_BIG, 5))
        self.same(lowest(BIG * 5, -BIG * OTHER_BIG), (-5, OTHER_BIG))
        self.same(lowest(BIG, OTHER_BIG), (BIG, OTHER_BIG))
        self.same(lowest(BIG, BIG), (1, 1))

    def test_lowest_refuses_nought_below(self):
        for top in (0, 1, -1, BIG):
            self.refused(NotNumber, lowest, top, 0, value=0)

    def test_the_four_operations(self):
        for one in SOME:
            for other in SOME:
                self.same(added(pair(one), pair(other)), pair(one + other))
                self.same(minus(pair(one), pair(other)), pair(one - other))
                self.same(times(pair(one), pair(other)), pair(one * other))
                if other != 0:
                    self.same(divided(pair(one), pair(other)), pair(one / other))

    def test_operations_worked_by_hand(self):
        self.same(added((1, 6), (1, 3)), (1, 2))
        self.same(added((1, 2), (-1, 2)), (0, 1))
        self.same(minus((1, 6), (2, 3)), (-1, 2))
        self.same(minus((2, 3), (1, 6)), (1, 2))
        self.same(times((2, 3), (-3, 4)), (-1, 2))
        self.same(times((0, 1), (-3, 4)), (0, 1))
        self.same(divided((1, 2), (-3, 4)), (-2, 3))
        self.same(divided((0, 1), (-3, 4)), (0, 1))
        self.same(halfway((1, 2), (1, 3)), (5, 12))
        self.same(halfway((-1, 1), (1, 1)), (0, 1))
        self.same(halfway((3, 1), (5, 1)), (4, 1))

    def test_arguments_by_name(self):
        self.same(minus(other=(1, 1), one=(3, 1)), (2, 1))
        self.same(divided(other=(2, 1), one=(3, 1)), (3, 2))
        self.same(compared(other=(2, 1), one=(3, 1)), 1)

    def test_divided_refuses_nought(self):
        for one in ((0, 1), (1, 1), (-5, 3), (BIG, 1)):
            self.refused(NotNumber, divided, one, (0, 1), value=(0, 1))

    def test_halfway(self):
        for one in SOME:
            for other in SOME:
                self.same(halfway(pair(one), pair(other)), pair((one + other) / 2))

    def test_compared(self):
        for one in SOME:
            for other in SOME:
                self.same(compared(pair(one), pair(other)), (one > other) - (one < other))

    def test_compared_goes_by_values(self):
        # As tuples these stand the other way round.
        self.same(compared((2, 3), (1, 1)), -1)
        self.same(compared((1, 2), (1, 3)), 1)
        self.same(compared((-1, 2), (-1, 3)), -1)

    def test_check_fraction_returns_fractions(self):
        for value in ((0, 1), (1, 1), (-1, 1), (1, 2), (-3, 2), (BIG, OTHER_BIG), (-BIG, 1), (1, BIG)):
            self.assertIs(check_fraction(value), value)

    def test_check_fraction_refuses_what_is_no_fraction(self):
        for value in NO_TUPLES:
            self.refused(NotNumber, check_fraction, value, value=value)
        for value in ((), (1,), (1, 2, 3), (0, 1, 1), ((1, 2),)):
            self.refused(NotNumber, check_fraction, value, value=value)
        for value in NO_INTEGERS:
            self.refused(NotNumber, check_fraction, (value, 1), value=(value, 1))
            self.refused(NotNumber, check_fraction, (1, value), value=(1, value))

    def test_check_fraction_refuses_other_pairs(self):
        for value in ((1, 0), (0, 0), (1, -1), (1, -2), (0, -1), (-1, -2)):
            self.refused(NotNumber, check_fraction, value, value=value)
        for value in ((2, 2), (0, 2), (4, 6), (-4, 6), (BIG, BIG), (BIG, 7), (0, BIG)):
            self.refused(NotNumber, check_fraction, value, value=value)


if __name__ == "__main__":
    unittest.main()
