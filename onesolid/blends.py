"""The convex hull of all sums of points, one of each of some lots of cells, told by rows that are found as needed."""

from onesolid.closures import rows_around
from onesolid.flats import on_flat
from onesolid.numbers import shortened
from onesolid.rows import weighed


class Blend:
    """The hull of the sums of some spreads: by the rows of its closure, and by what of it lies on each of its walls."""

    def __init__(self, dimension, spreads):
        self.dimension = dimension
        self.spreads = spreads
        rays = [vector for spread in spreads for vector, _ in spread.rays]
        lines = [vector for spread in spreads for vector in spread.lines]
        flat, walls = rows_around(dimension, _sums(spreads), rays, lines)
        self.flat = flat
        self.walls = walls
        # What lies on the walls, by their numbers, as far as it was asked for.
        self.parts = {}

    def has(self, point):
        """Whether a point belongs to the hull."""
        if not on_flat(self.flat, point):
            return False
        heights = [weighed(wall, point) for wall in self.walls]
        if min(heights, default=1) < 0:
            return False
        if 0 not in heights:
            return True
        part = self.part_on(heights.index(0))
        return part is not None and part.has(point)

    def part_on(self, number):
        """The part of the hull that lies on the wall with this number, None if there is none."""
        if number not in self.parts:
            self.parts[number] = self.part_by(self.walls[number])
        return self.parts[number]

    def part_by(self, wall):
        """The part of the hull at which a wall is 0, None if there is none."""
        # The sums that are least are those of what is least itself.
        row = wall[:-1] + (0,)
        parts = [spread.part(spread.at_value(row, spread.least_value(row))) for spread in self.spreads]
        if any([part.lot == 0 for part in parts]):
            return None
        return Blend(self.dimension, parts)


def _sums(spreads):
    """All sums of points, one of each of some spreads."""
    sums = [vector for vector, _ in spreads[0].points]
    for spread in spreads[1:]:
        sums = [sum_of_points(vector, other) for vector in sums for other, _ in spread.points]
    return sums


def sum_of_points(point, other):
    """The point with the sums of the coordinates of two."""
    weight, own = point[-1], other[-1]
    numbers = [number * own + part * weight for number, part in zip(point[:-1], other[:-1])]
    return shortened(numbers + [weight * own])


def is_in_some(blends, point):
    """Whether a point belongs to one of some hulls."""
    for blend in blends:
        if blend.has(point):
            return True
    return False
