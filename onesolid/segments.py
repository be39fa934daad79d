"""Points on the way from one point to another."""

from onesolid.numbers import compared, lowest
from onesolid.points import between
from onesolid.rows import weighed


def just_behind(planes, point, other):
    """A point between two, with the signs that the way to the other one has at some planes in its beginning."""
    least = (1, 1)
    for plane in planes:
        height = weighed(plane, point) * other[-1]
        far = weighed(plane, other) * point[-1]
        if height * far < 0:
            turn = lowest(height, height - far)
            if compared(turn, least) < 0:
                least = turn
    return between(point, other, lowest(least[0], 2 * least[1]))


def opposite_to(point, other):
    """The point as far from a point as another one, on the opposite side."""
    return between(point, other, (-1, 1))
