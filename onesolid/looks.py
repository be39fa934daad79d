"""Along which flats a set is the same all around a point."""

from onesolid.canon import in_dict
from onesolid.errors import Unlike
from onesolid.faces import cell_star
from onesolid.flats import flat_dimension, flat_of
from onesolid.grids import Grid, at_places, zero_places
from onesolid.points import check_point
from onesolid.rows import signs_at
from onesolid.sights import hangs_by, look_among, meets_at, places_on
from onesolid.stars import noughts_filled


def star_at(form, point):
    """The signs of the star of the point's cell, ascending."""
    dimension, planes, _ = form
    check_point(dimension, point)
    return cell_star(dimension, planes, signs_at(planes, point))


def grid_at(form, point):
    """The grid of the planes through a point, and the lot of those of its cells that are in the set near the point."""
    dimension, planes, cells = form
    signs = signs_at(planes, point)
    places = zero_places(signs)
    grid = Grid(dimension, at_places(planes, places))
    wanted = in_dict(cells)
    lot = 0
    for number, inner in enumerate(grid.cells):
        if noughts_filled(signs, inner) in wanted:
            lot |= 1 << number
    return grid, lot


def hangs_on(form, point, flat):
    """Whether the set hangs, at a point, on a flat."""
    check_point(form[0], point)
    grid, lot = grid_at(form, point)
    places = places_on(grid, tuple(range(len(grid.planes))), flat)
    if flat_of(grid.dimension, at_places(grid.planes, places)) != flat:
        raise Unlike()
    return hangs_by(grid, lot, grid.whole, places)


def look_at(form, point):
    """The look at a point: the greatest flat on which the set hangs."""
    check_point(form[0], point)
    grid, lot = grid_at(form, point)
    return look_among(grid, lot, grid.whole, meets_at(grid, tuple(range(len(grid.planes)))))


def depth_at(form, point):
    """The dimension of the look at a point."""
    return flat_dimension(form[0], look_at(form, point))
