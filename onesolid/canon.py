"""The one form of a set that is told by cells of any planes."""

from onesolid.cells import MOST_PLANES
from onesolid.errors import TooGreat
from onesolid.grids import Grid, at_places
from onesolid.needed import cut_at_most
from onesolid.numbers import sign_of
from onesolid.rows import first_place, plane_of, signs_at
from onesolid.sights import flats_in
from onesolid.spreads import inner_points


def look_at_planes(dimension, planes):
    """The grid of the unlike ones of some planes, ascending; it is refused if they are too many to be looked at."""
    unlike = tuple(sorted(set(planes)))
    if len(unlike) > MOST_PLANES[dimension]:
        raise TooGreat(MOST_PLANES[dimension])
    return Grid(dimension, unlike)


def form_of_lot(grid, lot):
    """The form of the union of the cells of a lot."""
    planes = cut_at_most(grid.dimension, flats_in(grid, lot), MOST_PLANES[grid.dimension])
    return (grid.dimension, planes, _cells_on(grid, lot, planes))


def _cells_on(grid, lot, planes):
    """The cells of other planes that lie in a set, which is a union of such."""
    if all([plane in grid.planes for plane in planes]):
        places = [grid.planes.index(plane) for plane in planes]
        return tuple(sorted({at_places(signs, places) for signs in grid.cells_in(lot)}))
    fresh = Grid(grid.dimension, planes)
    return tuple(fresh.cells_in(lot_with(fresh, lambda point: _is_in_lot(grid, lot, point))))


def _is_in_lot(grid, lot, point):
    return (lot >> grid.numbers[signs_at(grid.planes, point)]) & 1 == 1


def lot_with(grid, is_in):
    """The lot of the cells in one point of which, whichever it is, a function returns True."""
    lot = 0
    for number, point in list(inner_points(grid, grid.whole).items()):
        if is_in(point):
            lot |= 1 << number
    return lot


def is_inside(form, point):
    """Whether a point belongs to the set of a form."""
    return signs_at(form[1], point) in form[2]


def form_by_rows(dimension, rows, form):
    """The form of the points at which rows, one for each plane of a form, have the signs of a cell in its set."""
    planes = [plane_of(row) for row in rows]
    grid = look_at_planes(dimension, [plane for plane in planes if plane is not None])
    return form_of_lot(grid, lot_by_rows(grid, rows, in_dict(form[2])))


def in_dict(cells):
    """Some cells as the keys of a dict, in which they are found at once."""
    return {signs: True for signs in cells}


def lot_by_rows(grid, rows, cells):
    """The lot of those cells, of the planes of some rows, at which the rows have signs that are keys of a dict."""
    told = [_told_by(grid, row) for row in rows]
    lot = 0
    for number, signs in enumerate(grid.cells):
        if tuple([sign if place is None else sign * signs[place] for place, sign in told]) in cells:
            lot |= 1 << number
    return lot


def _told_by(grid, row):
    """The place of the plane of a row, None if it has none, and the sign of the row where that of the plane is 1."""
    plane = plane_of(row)
    if plane is None:
        return None, sign_of(row[-1])
    return grid.planes.index(plane), sign_of(row[first_place(row)])
