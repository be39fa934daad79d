"""Sums of two sets, sets shrunk by others, opened and closed by others."""

from onesolid.blends import Blend, is_in_some
from onesolid.canon import form_of_lot, lot_with
from onesolid.cells import MOST_PLANES
from onesolid.covers import convex_parts
from onesolid.deeds import rest
from onesolid.errors import TooGreat, Unlike
from onesolid.flats import flat_beside, flat_point, flat_sum
from onesolid.grids import Grid, grid_of
from onesolid.needed import cut_at_most
from onesolid.numbers import added, shortened
from onesolid.rows import value_at
from onesolid.sights import flats_in
from onesolid.spreads import spread_of


def sum_of(form, other):
    """The form of the sum of two sets."""
    _check_alike(form, other)
    grid, lot = grid_of(form)
    other_grid, other_lot = grid_of(other)
    return _sum(grid, lot, other_grid, other_lot)


def shrunk(form, other):
    """The form of a set shrunk by another one."""
    _check_alike(form, other)
    grid, lot = grid_of(form)
    other_grid, other_lot = _turned(other)
    # What leads from no point of the other set, turned about, out of the first one.
    return rest(_sum(grid, grid.whole ^ lot, other_grid, other_lot))


def opened(form, other):
    """The form of a set shrunk by another one, which is then added to it."""
    return sum_of(shrunk(form, other), other)


def closed_by(form, other):
    """The form of a set to which another one is added, by which it is then shrunk."""
    return shrunk(sum_of(form, other), other)


def _check_alike(form, other):
    if form[0] != other[0]:
        raise Unlike()


def _turned(form):
    """The grid of the planes of a form turned about the origin, and the lot of its set, which is no form."""
    dimension, planes, cells = form
    grid = Grid(dimension, tuple([plane[:-1] + (-plane[-1],) for plane in planes]))
    return grid, grid.lot_of([tuple([-sign for sign in signs]) for signs in cells])


def _sum(grid, lot, other_grid, other_lot):
    """The form of the sum of two sets, lots of the cells of grids."""
    dimension = grid.dimension
    most = MOST_PLANES[dimension]
    sums = _sums_of_flats(dimension, flats_in(grid, lot), flats_in(other_grid, other_lot), most)
    target = Grid(dimension, cut_at_most(dimension, sums, most))
    blends = _blends(dimension, _convex_spreads(grid, lot), _convex_spreads(other_grid, other_lot))
    return form_of_lot(target, lot_with(target, lambda point: is_in_some(blends, point)))


def _convex_spreads(grid, lot):
    spread = spread_of(grid, lot)
    return [spread.part(part) for part in convex_parts(grid, lot)]


def _blends(dimension, spreads, others):
    return [Blend(dimension, [spread, other]) for spread in spreads for other in others]


def _sums_of_flats(dimension, flats, others, most):
    """The sums of a flat of the one and a flat of the other set but the whole space; refused with too many planes."""
    sums = {}
    planes = {}
    for across, points in _flats_along(dimension, flats):
        for other_across, other_points in _flats_along(dimension, others):
            rows = flat_sum(dimension, across, other_across)
            found = [] if rows == () else _moved_sums(rows, points, other_points)
            for flat in found:
                sums[flat] = True
                if len(flat) == 1:
                    planes[flat] = True
            # All of the planes are taken, so more are too many whatever else there is.
            if len(planes) > most:
                raise TooGreat(most)
    return list(sums)


def _flats_along(dimension, flats):
    """Pairs of a flat through the origin and the points of those of some flats that have the same directions."""
    origin = (0,) * dimension + (1,)
    found = {}
    for flat in flats:
        found.setdefault(flat_beside(dimension, flat, origin), []).append(flat_point(dimension, flat))
    return list(found.items())


def _moved_sums(rows, points, others):
    """The flats with the coefficients of some rows through all sums of a point and another point."""
    values = _values(rows, points)
    other_values = _values(rows, others)
    found = {}
    for heights in values:
        for other_heights in other_values:
            found[tuple([_row_at(row, added(one, two)) for row, one, two in zip(rows, heights, other_heights)])] = True
    return list(found)


def _values(rows, points):
    """The tuples, unlike ones, of the values that some rows have at points."""
    return list({tuple([value_at(row, point) for row in rows]): True for point in points})


def _row_at(row, value):
    """The plane with the coefficients of a row that is 0 at the origin, through the points at which it has a value."""
    top, bottom = value
    return shortened([bottom * number for number in row[:-1]] + [-top])
