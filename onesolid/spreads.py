"""What cells spread over: the corners, rays and lines of which all points of their closures are sums.

They are vectors with one number more than the space has dimensions: those of corners are points, those of rays and
lines have a 0 there. Without corners the least flats that are intersections of planes stand for them, each told by one
of its points; the lines lead along them. A pair (VECTOR, LOT) tells in the closures of which cells a vector is used.
"""

from onesolid.cells import least_meets
from onesolid.flats import flat_directions, flat_point
from onesolid.grids import grid_of, numbers_in
from onesolid.numbers import compared, shortened
from onesolid.rows import signs_at, slope, value_at
from onesolid.stars import edges_around, flat_across


class Spread:
    """The vectors of the closures of the cells of a lot."""

    def __init__(self, lot, points, rays, lines):
        self.lot = lot
        self.points = [(vector, used) for vector, used in points if used & lot != 0]
        self.rays = [(vector, used) for vector, used in rays if used & lot != 0]
        self.lines = lines if lot != 0 else []

    def part(self, lot):
        """What some of the cells spread over."""
        return Spread(lot, self.points, self.rays, self.lines)

    def vectors(self):
        """The pairs of points and of rays."""
        return self.points + self.rays

    def has_bounds(self):
        """Whether the coordinates of the points of the cells have bounds."""
        return not self.lines and not self.rays

    def least_value(self, row):
        """The least value that a row has on the closures of the cells, None without cells or without such a value."""
        if self.lot == 0 or self.is_falling(row):
            return None
        least = None
        for vector, _ in self.points:
            value = value_at(row, vector)
            if least is None or compared(value, least) < 0:
                least = value
        return least

    def is_falling(self, row):
        """Whether a row becomes less and less along a ray or a line."""
        if any([slope(row, vector) != 0 for vector in self.lines]):
            return True
        return any([slope(row, vector) < 0 for vector, _ in self.rays])

    def at_value(self, row, value):
        """The lot of the cells at all points of which a row has a value, which is the least one or less."""
        lot = self.lot
        for vector, used in self.points:
            if value_at(row, vector) != value:
                lot &= ~used
        for vector, used in self.rays:
            if slope(row, vector) != 0:
                lot &= ~used
        return lot


def spread_of(grid, lot):
    """What the cells of a lot spread over."""
    normals = [plane[:-1] for plane in grid.planes]
    across = flat_across(grid.dimension, normals)
    points = []
    for flat in least_meets(grid.dimension, grid.planes):
        vector = flat_point(grid.dimension, flat)
        points.append((vector, grid.star(signs_at(grid.planes, vector))))
    rays = [] if across == () else _rays(grid, normals, len(across) - 1)
    lines = [direction + (0,) for direction in flat_directions(grid.dimension, across)]
    return Spread(lot, points, rays, lines)


def _rays(grid, normals, many):
    """The vectors of the edges of all cells far away, each with the lot of the cells that go on along it."""
    rays = []
    for direction, far in edges_around(grid.dimension, normals, many):
        rays.append((direction + (0,), grid.star(far)))
        opposite = tuple([-number for number in direction])
        rays.append((opposite + (0,), grid.star([-sign for sign in far])))
    return rays


def spread_of_form(form):
    """What the cells of a set spread over."""
    grid, lot = grid_of(form)
    return spread_of(grid, lot)


def inner_points(grid, lot):
    """A point of each of the cells of a lot, by its number."""
    totals = {number: (0,) * (grid.dimension + 1) for number in numbers_in(lot)}
    for vector, used in spread_of(grid, lot).vectors():
        for number in numbers_in(used & lot):
            totals[number] = tuple([total + part for total, part in zip(totals[number], vector)])
    return {number: shortened(total) for number, total in list(totals.items())}
