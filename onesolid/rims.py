"""Solids, the cells of their rims, where they touch themselves, and the handles of the parts of their rims."""

from onesolid.cuttings import signed_count
from onesolid.deeds import closed_lot, inner_lot
from onesolid.errors import Empty, Endless, Flat, NotForm, Unlike
from onesolid.grids import grid_of
from onesolid.hanging import parts_in
from onesolid.spreads import spread_of


def check_solid(form):
    """The form, if its set is a solid: not empty, bounded and the closure of its interior, in the plane or in space."""
    _solid(form)
    return form


def _solid(form):
    """The grid and the lot of a solid."""
    dimension, _, cells = form
    if dimension == 1:
        raise Unlike()
    if not cells:
        raise Empty()
    grid, lot = grid_of(form)
    if not spread_of(grid, lot).has_bounds():
        raise Endless()
    if closed_lot(grid, inner_lot(grid, lot)) != lot:
        raise Flat()
    return grid, lot


def rim_cells(form):
    """The signs of the cells in the rim of a solid, ascending."""
    grid, lot = _solid(form)
    return tuple(grid.cells_in(_rim_lot(grid, lot)))


def _rim_lot(grid, lot):
    return lot & ~inner_lot(grid, lot)


def pinches(form):
    """The signs of the cells of the rim of a solid at which it touches itself, ascending."""
    grid, lot = _solid(form)
    return tuple(_pinches(grid, lot))


def _pinches(grid, lot):
    return [signs for signs in grid.cells_in(_rim_lot(grid, lot)) if _is_pinch(grid, lot, signs)]


def _is_pinch(grid, lot, signs):
    """Whether the cells above a cell of the rim that are in the solid, or those that are not, do not hang together."""
    above = grid.star(signs) & ~(1 << grid.numbers[signs])
    return len(parts_in(grid, above & lot)) > 1 or len(parts_in(grid, above & ~lot)) > 1


def handles_of(form):
    """The handles of the parts of the rim of a solid of space that touches itself nowhere."""
    grid, lot = _solid(form)
    if grid.dimension == 2:
        raise Unlike()
    if _pinches(grid, lot):
        raise NotForm("surface")
    # The flats of the rim of a solid are those of the solid, so its form has the same planes.
    return tuple([_handles(grid, part) for part in parts_in(grid, _rim_lot(grid, lot))])


def _handles(grid, part):
    return 1 - signed_count(grid.dimension, grid.planes, grid.cells_in(part)) // 2
