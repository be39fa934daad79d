"""Points (x1, .., xd, w), with the coordinates x / w, and directions of a space of dimension 1 to 4."""

from onesolid.errors import Flat, NotPoint, NotRow, Unlike
from onesolid.numbers import common_divisor, common_multiple, lowest, shortened, wrong_place


def check_point(dimension, value):
    """The value, if it is a point of the dimension."""
    place = wrong_place(value, dimension + 1)
    if place is not None:
        raise NotPoint(place)
    if value[dimension] < 1:
        raise NotPoint(dimension)
    if common_divisor(value) > 1:
        raise NotPoint(-2)
    return value


def point_of(coordinates):
    """The point with some fractions as its coordinates."""
    weight = common_multiple([fraction[1] for fraction in coordinates])
    return tuple([top * (weight // bottom) for top, bottom in coordinates]) + (weight,)


def coordinates_of(point):
    """The coordinates of a point, fractions."""
    return tuple([lowest(number, point[-1]) for number in point[:-1]])


def check_direction(dimension, value):
    """The value, if it is a direction of the dimension."""
    place = wrong_place(value, dimension)
    if place is not None:
        raise NotRow(place)
    if common_divisor(value) != 1:
        raise NotRow(-2)
    return value


def direction_of(numbers):
    """The direction of which a tuple of integers is a positive multiple."""
    if common_divisor(numbers) == 0:
        raise Flat()
    return shortened(numbers)


def steps_between(point, other):
    """A positive multiple of what leads from one point to another, all noughts if they are one."""
    return tuple([far * point[-1] - near * other[-1] for near, far in zip(point[:-1], other[:-1])])


def moved_by(point, direction, amount):
    """The point, and a direction times amount, a fraction."""
    top, bottom = amount
    weight = point[-1]
    moved = [number * bottom + step * top * weight for number, step in zip(point[:-1], direction)]
    return shortened(moved + [weight * bottom])


def between(point, other, amount):
    """The point on the way from one point to another that an amount, a fraction, of it leads to."""
    top, bottom = amount
    near = (bottom - top) * other[-1]
    far = top * point[-1]
    return shortened([near * number + far * part for number, part in zip(point, other)])


def direction_to(point, other):
    """The direction from one point to another."""
    if point == other:
        raise Unlike()
    return direction_of(steps_between(point, other))
