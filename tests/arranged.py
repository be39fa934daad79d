"""Planes for tests: small ones, parallel ones, many through one point."""

from itertools import product
from random import Random

from anew import has_points, opposite, whole


def least_plane(numbers):
    """The plane of a row with coefficients."""
    row = whole(numbers)
    first = next(number for number in row if number != 0)
    return row if first > 0 else opposite(row)


def some_planes(random, dimension, many):
    """So many unlike small planes."""
    found = []
    while len(found) < many:
        numbers = [random.choice((-2, -1, 0, 0, 1, 2)) for _ in range(dimension)]
        numbers.append(random.choice((-7, -3, -2, -1, 0, 0, 1, 2, 4, 5)))
        if any(numbers[:-1]) and least_plane(numbers) not in found:
            found.append(least_plane(numbers))
    return tuple(found)


def some_arrangements(dimension, many, most, seed):
    """Tuples of at most so many unlike planes, in any order."""
    random = Random(seed)
    for _ in range(many):
        yield some_planes(random, dimension, random.randint(0, most))


SPECIAL = {
    1: ((), ((1, 0),), ((2, 1), (1, 0), (3, -7)), ((1, 5), (1, 4), (1, 3), (1, 2), (1, 1))),
    2: ((), ((0, 1, 3),),
        # Parallel ones, through one point, and a line beside it.
        ((1, 1, 0), (1, 1, 1), (1, 1, -3), (1, 1, 7)), ((1, 0, 0), (0, 1, 0), (1, 1, 0), (1, -1, 0)),
        ((1, 0, 0), (0, 1, 0), (1, 1, 0), (1, 1, -1)), ((1, 0, 0), (1, 0, 1), (0, 1, 0), (0, 1, 1), (1, -1, 0))),
    3: ((), ((1, 2, 3, 4),), ((0, 0, 1, 0), (0, 0, 1, 1), (0, 0, 1, 2)), ((1, 0, 0, 0), (0, 1, 0, 0), (1, 1, 0, 0)),
        # Through one line; through one point; a prism along (1, 1, 1).
        ((1, 0, 0, 0), (0, 1, 0, 0), (1, 1, 0, 0), (1, 2, 0, 0), (0, 0, 1, 0)),
        ((1, 0, 0, 0), (0, 1, 0, 0), (0, 0, 1, 0), (1, 1, 1, 0), (1, -1, 0, 0)),
        ((1, -1, 0, 0), (0, 1, -1, 0), (1, 0, -1, 0), (1, 0, -1, 2))),
}


def pairs_anew(planes, signs):
    """The pairs that hold at the points of planes with these signs."""
    return [("eq", plane) if sign == 0 else ("gt", plane if sign > 0 else opposite(plane))
            for plane, sign in zip(planes, signs)]


def cells_anew(dimension, planes):
    """The signs of all cells, ascending: of all signs there could be those that hold somewhere."""
    found = [()]
    for many in range(1, len(planes) + 1):
        longer = [signs + (sign,) for signs, sign in product(found, (-1, 0, 1))]
        found = [signs for signs in longer if has_points(pairs_anew(planes[:many], signs), dimension)]
    return tuple(found)
