"""Meshes: tuples of sides, each told by its corners, that close up; rays through them, and their volumes."""

from math import factorial

from onesolid.errors import Flat, NotMesh, NotPaper, Unlike
from onesolid.flats import flat_through
from onesolid.holding import point_led
from onesolid.numbers import NOUGHT, ONE, compared, divided, in_order, lowest, minus, total_of
from onesolid.papers import is_point
from onesolid.points import coordinates_of, moved_by
from onesolid.rows import slope, weighed
from onesolid.simplices import determinant, weights


def check_mesh(dimension, value):
    """The value, if it is a mesh of the dimension."""
    if not isinstance(value, tuple) or not all([_has_side_form(dimension, side) for side in value]):
        raise NotMesh("form")
    if any([_is_flat_side(side) for side in value]):
        raise NotMesh("flat")
    counts = {}
    for side in value:
        for edge in _edges_of(side):
            counts[edge] = counts.get(edge, 0) + 1
    if any([many & 1 == 1 for many in list(counts.values())]):
        raise NotMesh("edge")
    return value


def _has_side_form(dimension, value):
    """Whether any value is a tuple of as many unlike points as the space has dimensions."""
    if not isinstance(value, tuple) or len(value) != dimension:
        return False
    return all([is_point(dimension, corner) for corner in value]) and len(set(value)) == dimension


def _is_flat_side(side):
    """Whether the corners of a side lie in a flat of two dimensions less than the space has."""
    return len(flat_through(side)) > 1


def _edges_of(side):
    """All corners of a side but one, ascending, for each of them; on the line there are none."""
    corners = sorted(side)
    return [tuple(corners[:own] + corners[own + 1:]) for own in range(len(corners))]


def turned_mesh(mesh):
    """A mesh of the plane or of space with the first two corners of each side exchanged."""
    return tuple([(side[1], side[0]) + side[2:] for side in mesh])


def led_mesh(mesh, table):
    """A mesh with all corners led by a table."""
    led = tuple([tuple([point_led(table, corner) for corner in side]) for side in mesh])
    if any([_is_flat_side(side) for side in led]):
        raise Flat()
    return led


def on_mesh(mesh, point):
    """Whether a point belongs to a side of a mesh."""
    return any([is_on_side(side, point) for side in mesh])


def is_on_side(side, point):
    """Whether a point belongs to a side."""
    found = weights(side, point)
    return found is not None and all([top >= 0 for top, _ in found])


def is_let(mesh, point, direction):
    """Whether the ray from a point along a direction meets no side but within, where it goes on out of its flat."""
    if on_mesh(mesh, point):
        return False
    return all([_meets_side(side, point, direction) is not None for side in mesh])


def met(mesh, point, direction):
    """The numbers of the sides that a ray that is let meets, ascending."""
    if not is_let(mesh, point, direction):
        raise NotPaper("ray")
    return tuple([number for number, side in enumerate(mesh) if _meets_side(side, point, direction)])


def _meets_side(side, point, direction):
    """Whether a ray from a point that is not on a side meets it within, going out of its flat; None if otherwise."""
    plane = flat_through(side)[0]
    height = weighed(plane, point)
    growth = slope(plane, direction)
    if growth == 0:
        # The ray lies in the flat or beside it.
        return None if height == 0 and _meets_in_flat(side, point, direction) else False
    number = lowest(-height, growth * point[-1])
    if number[0] <= 0:
        return False
    least = min([top for top, _ in weights(side, moved_by(point, direction, number))])
    if least == 0:
        return None
    return least > 0


def _meets_in_flat(side, point, direction):
    """Whether a ray that lies in the flat of a side meets it."""
    low, high = NOUGHT, None
    near = weights(side, point)
    far = weights(side, moved_by(point, direction, ONE))
    for own, other in zip(near, far):
        growth = minus(other, own)
        if growth[0] == 0:
            if own[0] < 0:
                return False
            continue
        turn = divided(minus(NOUGHT, own), growth)
        if growth[0] > 0:
            low = turn if compared(turn, low) > 0 else low
        elif high is None or compared(turn, high) < 0:
            high = turn
    return high is None or compared(low, high) <= 0


def let_ray(mesh, point):
    """A direction along which the ray from a point that is on no side is let."""
    if on_mesh(mesh, point):
        raise Unlike()
    number = 0
    while not all([_meets_side(side, point, some_direction(len(point) - 1, number)) is not None for side in mesh]):
        number += 1
    return some_direction(len(point) - 1, number)


def some_direction(dimension, number):
    """A direction for each number from 0, of which no more than two lie in any one plane through the origin."""
    return (1, number, number * number)[:dimension]


def parity(mesh, point):
    """How many sides a ray from a point that is let meets, modulo 2."""
    direction = let_ray(mesh, point)
    return len([side for side in mesh if _meets_side(side, point, direction)]) & 1


def mesh_volume(dimension, mesh):
    """The sum of the determinants of the corners of all sides, by the factorial; on the line of what lies between."""
    if dimension == 1:
        numbers = in_order([coordinates_of(side[0])[0] for side in mesh])
        return total_of([minus(numbers[own + 1], numbers[own]) for own in range(0, len(numbers), 2)])
    return total_of([_side_volume(dimension, side) for side in mesh])


def _side_volume(dimension, side):
    bottom = factorial(dimension)
    for corner in side:
        bottom *= corner[-1]
    return lowest(determinant([corner[:-1] for corner in side]), bottom)


def mesh_corners(mesh):
    """The corners of all sides of a mesh of space, ascending."""
    return tuple(sorted({corner for side in mesh for corner in side}))


def mesh_edges(mesh):
    """The pairs of corners of one side of a mesh of space, ascending."""
    return tuple(sorted({edge for side in mesh for edge in _edges_of(side)}))


def mesh_euler(mesh):
    """How many corners, less edges, plus sides a mesh of space has."""
    return len(mesh_corners(mesh)) - len(mesh_edges(mesh)) + len(mesh)
