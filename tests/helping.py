"""What several test files need: checks of refusals, and plain ways to compute what the package should return."""

import unittest
from fractions import Fraction

from onesolid import errors

BIG = 7 ** 400
OTHER_BIG = 11 ** 350

# Values that are no tuples, for functions that judge any value.
NO_TUPLES = (None, 0, 1, True, False, "", "is", b"ab", [], [1, 2], [0, 1], {}, {0: 1}, set(), 1.5, object(), len, int)
# Values that are no integers though some of them are equal to one.
NO_INTEGERS = (True, False, None, 1.0, 0.0, "1", b"1", (1,), [], {}, object(), Fraction(1, 1), complex(1))


class SolidCase(unittest.TestCase):
    """A test case that looks at kinds of values, too: True is not 1 for it, and a list no tuple."""

    def same(self, found, wanted):
        self.assertEqual(found, wanted)
        self.assertEqual(kinds(found), kinds(wanted))

    def refused(self, error, call, *args, **fields):
        """The call raises an error of just this class, with these fields."""
        with self.assertRaises(errors.SolidError) as caught:
            call(*args)
        self.assertIs(type(caught.exception), error)
        for name, wanted in fields.items():
            found = getattr(caught.exception, name)
            if found is not wanted:
                self.same(found, wanted)

    def refuses_what_is_no_point(self, call):
        """The call, of any value as a point of the plane, refuses what is none, in the sequence of check_point."""
        for value in NO_TUPLES + ((), (1, 1), (0, 0, 0, 1)):
            self.refused(errors.NotPoint, call, value, place=-1)
        for value in NO_INTEGERS:
            self.refused(errors.NotPoint, call, (value, 1, 0), place=0)
            self.refused(errors.NotPoint, call, (0, value, 0), place=1)
        self.refused(errors.NotPoint, call, (0, 0, 0), place=2)
        self.refused(errors.NotPoint, call, (0, 0, -1), place=2)
        self.refused(errors.NotPoint, call, (2, 4, 2), place=-2)


def kinds(value):
    """The classes of a value and of what is in its tuples."""
    if isinstance(value, tuple):
        return (type(value), [kinds(part) for part in value])
    return type(value)


def told(fraction):
    """A fraction of the package as one of Python's."""
    return Fraction(fraction[0], fraction[1])


def pair(number):
    """A number of Python's as a fraction of the package."""
    number = Fraction(number)
    return (number.numerator, number.denominator)


def numbers_at(point):
    """The coordinates of a point."""
    return [Fraction(number, point[-1]) for number in point[:-1]]


def worth(row, coordinates):
    """The value of a row at some coordinates."""
    return sum((a * x for a, x in zip(row, coordinates)), Fraction(row[-1]))


def independent(rows):
    """How many of some rows of numbers are independent."""
    rows = [[Fraction(number) for number in row] for row in rows]
    count = 0
    for place in range(len(rows[0]) if rows else 0):
        pivot = next((k for k in range(count, len(rows)) if rows[k][place] != 0), None)
        if pivot is None:
            continue
        rows[count], rows[pivot] = rows[pivot], rows[count]
        for k in range(count + 1, len(rows)):
            factor = rows[k][place] / rows[count][place]
            rows[k] = [a - factor * b for a, b in zip(rows[k], rows[count])]
        count += 1
    return count


def same_span(rows, others):
    """Whether some rows of numbers and some others span the same."""
    rows, others = list(rows), list(others)
    return independent(rows) == independent(others) == independent(rows + others)
