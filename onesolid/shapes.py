"""The weights of cells by those above them, shape numbers, and how many parts, tunnels and hollows sets have."""

from onesolid.grids import Grid, grid_of, numbers_in
from onesolid.hanging import parts_in
from onesolid.spreads import spread_of


def cell_weights(dimension, planes, cells):
    """The pairs of the signs of each cell of a lot and its weight, ascending."""
    grid = Grid(dimension, planes)
    known = _weights(grid, grid.lot_of(cells))
    return tuple([(grid.cells[number], known[number]) for number in sorted(known)])


def _weights(grid, lot):
    """The weights of the cells of a lot, by their numbers."""
    known = {}
    # What is above a cell has fewer signs 0.
    for number in sorted(numbers_in(lot), key=lambda own: grid.cells[own].count(0)):
        above = grid.star(grid.cells[number]) & lot & ~(1 << number)
        known[number] = 1 - sum([known[other] for other in numbers_in(above)])
    return known


def shape_number(dimension, planes, cells):
    """The sum of the weights of the cells of a lot."""
    grid = Grid(dimension, planes)
    return _shape_number(grid, grid.lot_of(cells))


def _shape_number(grid, lot):
    return sum(list(_weights(grid, lot).values()))


def lot_holes(dimension, planes, cells):
    """How many parts, tunnels and hollows the set of a lot has."""
    grid = Grid(dimension, planes)
    return _holes(grid, grid.lot_of(cells))


def holes_of(form):
    """How many parts, tunnels and hollows a set has."""
    grid, lot = grid_of(form)
    return _holes(grid, lot)


def _holes(grid, lot):
    parts = len(parts_in(grid, lot))
    if grid.dimension == 1:
        return (parts, 0, 0)
    outside = grid.whole ^ lot
    spread = spread_of(grid, outside)
    bounded = len([part for part in parts_in(grid, outside) if spread.part(part).has_bounds()])
    if grid.dimension == 2:
        return (parts, bounded, 0)
    return (parts, parts + bounded - _shape_number(grid, lot), bounded)
