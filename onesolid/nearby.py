"""What a set is near a point: all points that a short enough part of the way to them leads into the set."""

from onesolid.canon import form_of_lot, in_dict, lot_by_rows
from onesolid.grids import Grid, grid_of
from onesolid.looks import grid_at
from onesolid.points import check_point
from onesolid.rows import plane_of
from onesolid.sights import looks_at_cells, signs_around_look


def near(form, point):
    """The form of what the set is near a point."""
    check_point(form[0], point)
    grid, lot = grid_at(form, point)
    return form_of_lot(grid, lot)


def are_near_alike(form, point, other_point):
    """Whether what the set is near one point, moved to another one, is what it is near that one."""
    check_point(form[0], point)
    check_point(form[0], other_point)
    grid, lot = grid_at(form, point)
    other_grid, other_lot = grid_at(form, other_point)
    rows = _rows_at_origin(grid)
    other_rows = _rows_at_origin(other_grid)
    central = Grid(form[0], tuple(sorted({plane_of(row) for row in rows + other_rows})))
    moved = lot_by_rows(central, rows, in_dict(grid.cells_in(lot)))
    return moved == lot_by_rows(central, other_rows, in_dict(other_grid.cells_in(other_lot)))


def _rows_at_origin(grid):
    """The planes of a grid, all through one point, moved so that this becomes the origin."""
    return [plane[:-1] + (0,) for plane in grid.planes]


def near_faces(form):
    """Triples of the look, whether they belong to the set, and the cells, for the cells near which the set is one."""
    grid, lot = grid_of(form)
    lots = {}
    for signs, flat in zip(grid.cells, looks_at_cells(grid, lot)):
        is_in = (lot >> grid.numbers[signs]) & 1 == 1
        around = signs_around_look(grid, lot, signs, flat)
        lots.setdefault((len(flat), flat, is_in, around), []).append(signs)
    found = sorted([(many, flat, is_in, tuple(cells)) for (many, flat, is_in, _), cells in lots.items()])
    return tuple([(flat, is_in, cells) for _, flat, is_in, cells in found])
