"""Volumes, slices, moments and centres of bounded sets."""

from onesolid.cuttings import cutting, set_corners
from onesolid.errors import Empty, Flat
from onesolid.numbers import NOUGHT, ONE, added, ascending, compared, divided, in_order, lowest, minus, times, total_of
from onesolid.points import coordinates_of, point_of
from onesolid.simplices import simplex_volume


def volume(form):
    """The volume of a bounded set: the length on the line, the area in the plane."""
    return total_of([simplex_volume(simplex) for simplex in _full_simplices(form)])


def _full_simplices(form):
    """Those simplices of the cutting of a bounded set that have a volume."""
    return [simplex for simplex in cutting(form) if len(simplex) == form[0] + 1]


def slices(form):
    """The volumes of slices, a quarter, a half and three quarters of the way between each two heights of corners.

    Each time (low, high, first volume, second volume, third volume).
    """
    told = []
    for simplex in _full_simplices(form):
        told.append((in_order([coordinates_of(corner)[-1] for corner in simplex]), simplex_volume(simplex)))
    heights = ascending([coordinates_of(point)[-1] for point in set_corners(form)])
    found = []
    for low, high in zip(heights, heights[1:]):
        levels = [added(low, times(minus(high, low), (many, 4))) for many in range(1, 4)]
        # Between two heights of corners a simplex goes all the way or has no points.
        own = [(ends, bulk) for ends, bulk in told if compared(ends[0], low) <= 0 <= compared(ends[-1], high)]
        areas = [total_of([times(bulk, _density(ends, level)) for ends, bulk in own]) for level in levels]
        found.append((low, high) + tuple(areas))
    return tuple(found)


def _density(heights, level):
    """The share of a simplex with corners at some heights, ascending, that there is at a level, in each unit of height.

    The level is the height of no corner. It is the spline of the heights (Curry, Schoenberg).
    """
    low, high = heights[0], heights[-1]
    if compared(level, low) < 0 or compared(high, level) < 0:
        return NOUGHT
    many = len(heights) - 1
    if many == 1:
        return divided(ONE, minus(high, low))
    first = times(minus(level, low), _density(heights[:-1], level))
    second = times(minus(high, level), _density(heights[1:], level))
    return divided(times(added(first, second), (many, many - 1)), minus(high, low))


def moments(form):
    """The volume, the integrals of the coordinates, and those of the products of two coordinates, of a bounded set."""
    dimension = form[0]
    told = [_moments_of_simplex(simplex) for simplex in _full_simplices(form)]
    first = [total_of([own[1][place] for own in told]) for place in range(dimension)]
    second = []
    for place in range(dimension):
        second.append(tuple([total_of([own[2][place][other] for own in told]) for other in range(dimension)]))
    return (total_of([own[0] for own in told]), tuple(first), tuple(second))


def _moments_of_simplex(simplex):
    """The volume of a simplex and the integrals over it of the coordinates and of their products."""
    bulk = simplex_volume(simplex)
    corners = [coordinates_of(corner) for corner in simplex]
    columns = list(zip(*corners))
    many = len(corners)
    sums = [total_of(column) for column in columns]
    first = [times(lowest(bulk[0], bulk[1] * many), own) for own in sums]
    share = lowest(bulk[0], bulk[1] * many * (many + 1))
    second = []
    for column, own in zip(columns, sums):
        row = []
        for other_column, other in zip(columns, sums):
            products = [times(one, two) for one, two in zip(column, other_column)]
            row.append(times(share, total_of(products + [times(own, other)])))
        second.append(row)
    return bulk, first, second


def centre(form):
    """The centre of a bounded set that has a volume."""
    bulk, first, _ = moments(form)
    if not form[2]:
        raise Empty()
    if bulk == NOUGHT:
        raise Flat()
    return point_of(tuple([divided(own, bulk) for own in first]))
