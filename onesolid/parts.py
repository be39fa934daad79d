"""Lots of cells and the parts of sets: their largest subsets that hang together."""

from onesolid.canon import form_of_lot
from onesolid.cells import check_planes
from onesolid.cuttings import is_bounded
from onesolid.deeds import rest
from onesolid.errors import Empty, NotForm
from onesolid.forms import are_cells, is_ascending
from onesolid.grids import Grid, grid_of
from onesolid.hanging import part_around, parts_in
from onesolid.points import check_point
from onesolid.rows import signs_at


def check_lot(dimension, planes, cells):
    """Refuses any values that are no lot of the dimension: planes, and some of their cells, ascending."""
    check_planes(dimension, planes)
    if not are_cells(Grid(dimension, planes), cells) or not is_ascending(cells):
        raise NotForm("cells")


def lot_parts(dimension, planes, cells):
    """The parts of a lot, each as its cells, ascending, ordered by the least of these."""
    grid = Grid(dimension, planes)
    return tuple([tuple(grid.cells_in(part)) for part in parts_in(grid, grid.lot_of(cells))])


def parts_of(form):
    """The forms of the parts of a set, ordered by their least cells."""
    grid, lot = grid_of(form)
    return tuple([form_of_lot(grid, part) for part in parts_in(grid, lot)])


def part_with(form, point):
    """The form of the part of a set to which a point belongs."""
    check_point(form[0], point)
    grid, lot = grid_of(form)
    return form_of_lot(grid, part_around(grid, lot, number_in(grid, lot, point)))


def number_in(grid, lot, point):
    """The number of the cell of a lot to which a point belongs."""
    number = grid.numbers[signs_at(grid.planes, point)]
    if (lot >> number) & 1 == 0:
        raise Empty()
    return number


def hollows_of(form):
    """The forms of the bounded parts of the complement."""
    return tuple([part for part in parts_of(rest(form)) if is_bounded(part)])
