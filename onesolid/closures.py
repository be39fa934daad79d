"""The closures of the sets of systems, told by cones in one dimension more.

A point (x1, .., xd, w) is a vector; so is a direction with a 0 behind it. The cone that belongs to some pairs is cut
by their rows and, as number 0, by the row of w: the bit K + 1 of the zeros of a ray is that of the pair number K, and
the bit 0 is set at directions and clear at points. Without points the cone tells nothing of the set.
"""

from onesolid.cones import cone_of, holds_inside, shared_zeros, strict_bits, sum_of_rays
from onesolid.flats import cleared_by_all, flat_of
from onesolid.lots import vector_or_weights
from onesolid.numbers import lowest, shortened
from onesolid.rows import weighed


def with_weight(dimension, pairs):
    """The pairs behind the one that asks that a vector is a point."""
    return [("gt", (0,) * dimension + (1,))] + list(pairs)


def closure_of(dimension, pairs):
    """The cone of the closure of the set of some pairs, None if they hold nowhere."""
    weighted = with_weight(dimension, pairs)
    cone = cone_of(dimension + 1, weighted)
    if holds_inside(cone, weighted):
        return cone
    return None


def rows_around(dimension, points, rays, lines):
    """The flat and the walls, ascending, of all sums of points, their weights adding up to 1, of rays and of lines.

    All of them are vectors; rays and lines end in a 0.
    """
    # All rows that are not negative on the set are a cone, too: its lines are 0 there, its rays are the walls.
    pairs = [("ge", vector) for vector in points] + [("ge", vector) for vector in rays]
    equal, least = cone_of(dimension + 1, pairs + [("eq", vector) for vector in lines])
    flat = flat_of(dimension, equal)
    # A row that is 0 at no point is no wall.
    bits = (1 << len(points)) - 1
    walls = [shortened(cleared_by_all(row, flat)) for row, zeros in least if zeros & bits != 0]
    return flat, tuple(sorted(walls))


def shares_or_row(dimension, points, rays, point):
    """How a point is a sum of points, their weights adding up to 1, and of multiples of rays, from 0.

    Either the weights and the numbers, fractions, at most dimension + 1 of them other than 0, and None; or None, and
    a row that is not negative at all points and along all rays, but at the point.
    """
    told = [("ge", vector) for vector in points] + [("ge", vector) for vector in rays]
    row, wholes = vector_or_weights(dimension + 1, [("gt", tuple([-number for number in point]))] + told)
    if wholes is None:
        return None, row
    bottom = wholes[0] * point[-1]
    weights = [lowest(whole * own[-1], bottom) for whole, own in zip(wholes[1:], points)]
    numbers = [lowest(whole, bottom) for whole in wholes[1 + len(points):]]
    return (tuple(weights), tuple(numbers)), None


def point_or_weights(dimension, pairs):
    """A point at which some pairs hold, and None; otherwise None, and weights of the pairs, integers, that bar them."""
    point, weights = vector_or_weights(dimension + 1, with_weight(dimension, pairs))
    if weights is None:
        return point, None
    return None, weights[1:]


def has_point(dimension, rays, pairs):
    """Whether some pairs hold at a sum of some of the rays of their closure."""
    return shared_zeros(rays) & strict_bits(with_weight(dimension, pairs)) == 0


def sum_point(dimension, rays):
    """A point within the part of a closure to which some rays belong."""
    return sum_of_rays(dimension + 1, rays)


def rays_on(rays, row):
    """Those rays at which a row is 0."""
    return [ray for ray in rays if weighed(row, ray[0]) == 0]


def is_at_points(zeros):
    """Whether some zeros are those of points, not of directions alone."""
    return zeros & 1 == 0


def is_zero(zeros, number):
    """Whether some zeros have the bit of a pair."""
    return (zeros >> (number + 1)) & 1 == 1


def face_of_pair(rays, number):
    """The zeros of the points of the closure at which a pair is 0, None if there is no such point."""
    zeros = shared_zeros([ray for ray in rays if is_zero(ray[1], number)])
    return zeros if is_at_points(zeros) else None


def greatest_faces(faces):
    """Those of some faces, told by their zeros, that lie in no other one of them."""
    return [zeros for zeros in faces if not any([other != zeros and other & zeros == other for other in faces])]
