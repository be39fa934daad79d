"""Flats: points at which some rows are 0, told by the one tuple of reduced rows that each flat has."""

from onesolid.errors import NotRow
from onesolid.numbers import added, common_multiple, lowest, wrong_place
from onesolid.points import coordinates_of, direction_of, point_of, steps_between
from onesolid.rows import first_place, plane_of, sign_at, slope


def leading_place(plane):
    """The place of the first coefficient of a plane that is not 0."""
    return first_place(plane[:-1])


def _cleared(row, plane):
    """A positive multiple of the row, and such a multiple of the plane that its leading place becomes 0."""
    place = leading_place(plane)
    return tuple([plane[place] * number - row[place] * part for number, part in zip(row, plane)])


def cleared_by_all(row, planes):
    """A positive multiple of the row that the reduced planes have made 0 at all of their leading places."""
    left = row
    for plane in planes:
        left = _cleared(left, plane)
    return left


def flat_of(dimension, rows):
    """The flat of the points at which all rows are 0, None if there is no such point."""
    reduced = []
    for row in rows:
        left = cleared_by_all(row, reduced)
        fresh = plane_of(left)
        if fresh is not None:
            others = [plane_of(_cleared(plane, fresh)) for plane in reduced]
            reduced = sorted(others + [fresh], key=leading_place)
        elif left[dimension] != 0:
            return None
    return tuple(reduced)


def check_flat(dimension, value):
    """The value, if it is a flat of the dimension."""
    if not isinstance(value, tuple):
        raise NotRow(-1)
    for number, thing in enumerate(value):
        if wrong_place(thing, dimension + 1) is not None:
            raise NotRow(number)
    if flat_of(dimension, value) != value:
        raise NotRow(-2)
    return value


def flat_dimension(dimension, flat):
    """The dimension of a flat."""
    return dimension - len(flat)


def on_flat(flat, point):
    """Whether a point lies on a flat."""
    return all([sign_at(row, point) == 0 for row in flat])


def flat_in(dimension, flat, other):
    """Whether a flat lies in the other one."""
    return flat_meet(dimension, flat, other) == flat


def flat_meet(dimension, flat, other):
    """The flat of the points of both flats, None if there is none."""
    return flat_of(dimension, flat + other)


def is_on_row(flat, row):
    """Whether a row is 0 at all points of a flat."""
    return first_place(cleared_by_all(row, flat)) is None


def in_sequence(flats):
    """Some flats in their sequence, each once: by how many rows, then as Python compares."""
    pairs = sorted({(len(flat), flat) for flat in flats})
    return tuple([flat for _, flat in pairs])


def flat_through(points):
    """The smallest flat that contains some points, one at least."""
    first = points[0]
    steps = [steps_between(first, point) for point in points[1:]]
    return flat_along(len(first) - 1, first, steps)


def flat_sum(dimension, flat, other):
    """The flat of all sums of a point of the one and a point of the other flat."""
    first = coordinates_of(flat_point(dimension, flat))
    second = coordinates_of(flat_point(dimension, other))
    point = point_of(tuple([added(one, two) for one, two in zip(first, second)]))
    steps = flat_directions(dimension, flat) + flat_directions(dimension, other)
    return flat_along(dimension, point, steps)


def flat_along(dimension, point, steps):
    """The flat through a point that goes on along some tuples of numbers, which may be noughts."""
    # What is at right angles to all steps is what the coefficients of its rows are made of.
    normals = flat_directions(dimension, flat_of(dimension, [step + (0,) for step in steps]))
    return flat_beside(dimension, tuple([normal + (0,) for normal in normals]), point)


def flat_beside(dimension, flat, point):
    """The flat through a point that has the directions of a flat, which may be told by any rows."""
    rows = []
    for row in flat:
        coefficients = tuple([number * point[-1] for number in row[:-1]])
        rows.append(coefficients + (-slope(row, point[:-1]),))
    return flat_of(dimension, rows)


def flat_point(dimension, flat):
    """The point of a flat with the coordinates 0 at all places but the leading ones."""
    coordinates = [(0, 1)] * dimension
    for row in flat:
        place = leading_place(row)
        coordinates[place] = lowest(-row[-1], row[place])
    return point_of(tuple(coordinates))


def flat_directions(dimension, flat):
    """For each place that is no leading one the direction that is positive there and 0 at the others of them."""
    leading = [leading_place(row) for row in flat]
    # A multiple of all leading numbers keeps the steps whole.
    scale = common_multiple([row[place] for row, place in zip(flat, leading)])
    directions = []
    for free in range(dimension):
        if free not in leading:
            steps = [0] * dimension
            steps[free] = scale
            for row, place in zip(flat, leading):
                steps[place] = -row[free] * (scale // row[place])
            directions.append(direction_of(tuple(steps)))
    return tuple(directions)
