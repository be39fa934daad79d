"""Simplices: ascending tuples of points, their corners, which stand for what lies strictly between these."""

from math import factorial

from onesolid.errors import Flat, NotPoint, Unlike
from onesolid.flats import flat_of, flat_point, flat_through
from onesolid.numbers import lowest
from onesolid.papers import is_point
from onesolid.points import between, coordinates_of
from onesolid.weights import point_by_weights


def check_simplex(dimension, value):
    """The value, if it is a simplex of the dimension."""
    if not isinstance(value, tuple) or not 1 <= len(value) <= dimension + 1:
        raise NotPoint(-1)
    for number, corner in enumerate(value):
        if not is_point(dimension, corner) or (number > 0 and corner <= value[number - 1]):
            raise NotPoint(number)
    if dimension - len(flat_through(value)) < len(value) - 1:
        raise Flat()
    return value


def weights(simplex, point):
    """The weights, adding up to 1, with which the corners add up to a point, None if it is not in their flat."""
    many = len(simplex)
    flat = flat_of(many, [column + (-number,) for column, number in zip(list(zip(*simplex)), point)])
    if flat is None:
        return None
    # The corners themselves, with their last numbers, are multiplied by these.
    multiples = coordinates_of(flat_point(many, flat))
    return tuple([lowest(top * corner[-1], bottom * point[-1]) for (top, bottom), corner in zip(multiples, simplex)])


def in_simplex(simplex, point):
    """Whether a point lies in the open simplex."""
    found = weights(simplex, point)
    return found is not None and all([top > 0 for top, _ in found])


def middle(point, other):
    """The point half way between two."""
    return between(point, other, (1, 2))


def cut_simplex(simplex, one, other):
    """The two simplices into which the middle of two corners parts a simplex, and the wall between them."""
    half = middle(simplex[one], simplex[other])
    first = _with_corner(simplex, (other,), half)
    second = _with_corner(simplex, (one,), half)
    return (first, second, _with_corner(simplex, (one, other), half))


def _with_corner(simplex, numbers, corner):
    """The simplex without the corners with some numbers, with another one instead."""
    kept = [own for number, own in enumerate(simplex) if number not in numbers]
    return tuple(sorted(kept + [corner]))


def led_point(simplex, other, point):
    """The point that has in another simplex the weights that a point has in the first one."""
    found = weights(simplex, point) if len(simplex) == len(other) else None
    if found is None:
        raise Unlike()
    return point_by_weights(other, found)


def simplex_volume(simplex):
    """The volume of a simplex, 0 if it has fewer corners than its space allows."""
    dimension = len(simplex[0]) - 1
    if len(simplex) <= dimension:
        return (0, 1)
    bottom = factorial(dimension)
    for corner in simplex:
        bottom *= corner[-1]
    return lowest(abs(determinant(simplex)), bottom)


def determinant(rows):
    """The determinant of as many rows as each has numbers."""
    if len(rows) == 1:
        return rows[0][0]
    total = 0
    turn = 1
    for place, number in enumerate(rows[0]):
        total += turn * number * determinant([row[:place] + row[place + 1:] for row in rows[1:]])
        turn = -turn
    return total
