"""Fractions as pairs (top, bottom) in lowest terms, bottom from 1, and what is done with integers."""

from math import gcd, lcm

from onesolid.errors import NotNumber

NOUGHT = (0, 1)
ONE = (1, 1)


def is_whole(value):
    """Whether any value is an integer; True and False are none."""
    return isinstance(value, int) and not isinstance(value, bool)


def wrong_place(value, many):
    """What keeps any value from being a tuple of so many integers.

    -1 if it is no tuple of so many things, the number of the first thing that is no integer, otherwise None.
    """
    if not isinstance(value, tuple) or len(value) != many:
        return -1
    for place, number in enumerate(value):
        if not is_whole(number):
            return place
    return None


def common_divisor(numbers):
    """The greatest common divisor of some integers, 0 if they are all 0."""
    divisor = 0
    for number in numbers:
        divisor = gcd(divisor, number)
    return divisor


def common_multiple(numbers):
    """The least common multiple of some integers other than 0."""
    multiple = 1
    for number in numbers:
        multiple = lcm(multiple, number)
    return multiple


def shortened(numbers):
    """A tuple of integers divided by their greatest common divisor; noughts stay."""
    divisor = common_divisor(numbers)
    if divisor < 2:
        return tuple(numbers)
    return tuple([number // divisor for number in numbers])


def sign_of(number):
    """-1, 0 or 1, as the integer is below, at or above 0."""
    if number > 0:
        return 1
    if number < 0:
        return -1
    return 0


def check_fraction(value):
    """The value, if it is a fraction in lowest terms with a bottom from 1."""
    if wrong_place(value, 2) is not None or value[1] < 1 or gcd(value[0], value[1]) != 1:
        raise NotNumber(value)
    return value


def lowest(top, bottom):
    """The fraction of two integers in lowest terms."""
    if bottom == 0:
        raise NotNumber(bottom)
    divisor = gcd(top, bottom)
    if bottom < 0:
        divisor = -divisor
    return (top // divisor, bottom // divisor)


def added(one, other):
    """The sum of two fractions."""
    return lowest(one[0] * other[1] + other[0] * one[1], one[1] * other[1])


def minus(one, other):
    """The first fraction less the second one."""
    return lowest(one[0] * other[1] - other[0] * one[1], one[1] * other[1])


def times(one, other):
    """The product of two fractions."""
    return lowest(one[0] * other[0], one[1] * other[1])


def divided(one, other):
    """The first fraction divided by the second one."""
    if other[0] == 0:
        raise NotNumber(other)
    return lowest(one[0] * other[1], one[1] * other[0])


def halfway(one, other):
    """Half of the sum of two fractions."""
    return lowest(one[0] * other[1] + other[0] * one[1], 2 * one[1] * other[1])


def compared(one, other):
    """-1, 0 or 1, as the first fraction is less than, equal to or greater than the second one."""
    return sign_of(one[0] * other[1] - other[0] * one[1])


def ascending(fractions):
    """The tuple of some fractions, ascending by their values, each once."""
    bottom, tops = over_one_bottom(fractions)
    return tuple([lowest(top, bottom) for top in sorted(set(tops))])


def in_order(fractions):
    """The tuple of some fractions, ordered by their values, equal ones too."""
    bottom, tops = over_one_bottom(fractions)
    return tuple([lowest(top, bottom) for top in sorted(tops)])


def over_one_bottom(fractions):
    """The common bottom of some fractions, and their tops over it, which are in the sequence of the values."""
    bottom = common_multiple([own for _, own in fractions])
    return bottom, [top * (bottom // own) for top, own in fractions]


def total_of(fractions):
    """The sum of some fractions."""
    bottom, tops = over_one_bottom(fractions)
    return lowest(sum(tops), bottom)
