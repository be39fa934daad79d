"""Rows (a1, .., ad, b) of linear functions, and planes: rows with coefficients, reduced to one for each set."""

from onesolid.errors import NotRow
from onesolid.numbers import lowest, shortened, sign_of, wrong_place


def check_row(dimension, value):
    """The value, if it is a row of the dimension."""
    place = wrong_place(value, dimension + 1)
    if place is not None:
        raise NotRow(place)
    return value


def check_plane(dimension, value):
    """The value, if it is a plane of the dimension."""
    check_row(dimension, value)
    if plane_of(value) != value:
        raise NotRow(-2)
    return value


def coordinate_row(dimension, own):
    """The row the value of which is the coordinate with a number."""
    return tuple([1 if place == own else 0 for place in range(dimension + 1)])


def first_place(numbers):
    """The place of the first number that is not 0, None if there is none."""
    for place, number in enumerate(numbers):
        if number != 0:
            return place
    return None


def plane_of(row):
    """The plane of the points at which the row is 0, None if its coefficients are all 0."""
    place = first_place(row[:-1])
    if place is None:
        return None
    plane = shortened(row)
    if plane[place] < 0:
        return tuple([-number for number in plane])
    return plane


def weighed(row, point):
    """The value of a row at a point, times the last number of the point, which is positive."""
    return sum([number * part for number, part in zip(row, point)])


def value_at(row, point):
    """The value of a row at a point, a fraction."""
    return lowest(weighed(row, point), point[-1])


def sign_at(row, point):
    """The sign of the value of a row at a point."""
    return sign_of(weighed(row, point))


def signs_at(planes, point):
    """The signs of the values of some planes at a point."""
    return tuple([sign_at(plane, point) for plane in planes])


def product_of(numbers, others):
    """The sum of the products of some numbers and others, in turn."""
    return sum([number * other for number, other in zip(numbers, others)])


def rows_along(planes, point, directions):
    """The values of planes at a point moved along directions, as rows of the numbers by which these are multiplied."""
    rows = []
    for plane in planes:
        rows.append(tuple([slope(plane, step) * point[-1] for step in directions]) + (weighed(plane, point),))
    return rows


def slope(row, direction):
    """By how much the value of a row grows along a direction."""
    return product_of(row[:-1], direction)
