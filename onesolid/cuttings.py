"""Bounded sets cut into simplices, and the sums of cells by the parity of their dimensions."""

from onesolid.cells import cell_dimensions
from onesolid.errors import Endless, Unlike
from onesolid.grids import grid_of, numbers_in
from onesolid.numbers import ascending, is_whole
from onesolid.points import coordinates_of
from onesolid.spreads import spread_of, spread_of_form


def is_bounded(form):
    """Whether the coordinates of the points of a set have bounds."""
    return spread_of_form(form).has_bounds()


def set_corners(form):
    """The points that are cells of a form's planes and belong to the closure of the set, ascending."""
    spread = spread_of_form(form)
    if spread.lines:
        return ()
    return tuple(sorted([vector for vector, _ in spread.points]))


def cutting(form):
    """The simplices of the told cuttings of the cells that lie in a bounded set."""
    grid, lot = grid_of(form)
    return _in_turn(cut_cells(grid, lot))


def cutting_in(form, signs):
    """Those simplices of the cutting that lie in one of the cells of the set, told by any value."""
    grid, _ = grid_of(form)
    if not isinstance(signs, tuple) or not all([is_whole(sign) for sign in signs]) or signs not in form[2]:
        raise Unlike()
    return _in_turn(cut_cells(grid, grid.lot_of((signs,))))


def tally(form):
    """How many simplices of each dimension the cutting of a bounded set has."""
    counts = [0] * (form[0] + 1)
    for simplex in cutting(form):
        counts[len(simplex) - 1] += 1
    return tuple(counts)


def _in_turn(found):
    """All simplices of some cells, by the number of their corners, then as Python compares."""
    pairs = sorted([(len(simplex), simplex) for simplices in list(found.values()) for simplex in simplices])
    return tuple([simplex for _, simplex in pairs])


def cut_cells(grid, lot):
    """By the numbers of some bounded cells, a lot, the simplices of the told cuttings that lie in each of them."""
    spread = spread_of(grid, lot)
    if not spread.has_bounds():
        raise Endless()
    corners = [(vector, _corner_number(grid, used)) for vector, used in sorted(spread.points)]
    known = {number: [(vector,)] for vector, number in corners}
    return {number: _simplices_in(grid, corners, known, number) for number in numbers_in(lot)}


def _corner_number(grid, used):
    """The number of the cell that is a corner, given the lot of its star."""
    most = max([signs.count(0) for signs in grid.cells_in(used)])
    return [number for number in numbers_in(used) if grid.cells[number].count(0) == most][0]


def _simplices_in(grid, corners, known, number):
    """The simplices of the told cutting of the closure of a cell that lie in the cell itself."""
    if number not in known:
        signs = grid.cells[number]
        faces = grid.faces(signs)
        corner, own = [pair for pair in corners if (faces >> pair[1]) & 1 == 1][0]
        found = []
        for face in numbers_in(_faces_across(grid, signs, grid.cells[own]) & ~(1 << number)):
            for simplex in _simplices_in(grid, corners, known, face):
                found.append((corner,) + simplex)
        known[number] = found
    return known[number]


def _faces_across(grid, signs, corner):
    """The lot of those faces of a cell, also of itself, from which the way to a corner of it leads through the cell."""
    lot = grid.faces(signs)
    for place, sign in enumerate(corner):
        if sign == 0:
            lot &= grid.side(place, signs[place])
    return lot


def euler(form):
    """The number of the cells of even dimension of a set, less that of those of odd dimension."""
    return signed_count(form[0], form[1], form[2])


def signed_count(dimension, planes, cells):
    """The number of those of some cells that have an even dimension, less that of the others."""
    return sum([_signed(own) for own in cell_dimensions(dimension, planes, cells)])


def _signed(dimension):
    """1 for an even dimension, -1 for an odd one."""
    return 1 if dimension & 1 == 0 else -1


def slice_eulers(form):
    """For each height of a corner of a bounded set the height, the euler of the slice there and a little above."""
    grid, lot = grid_of(form)
    spread = spread_of(grid, lot)
    if not spread.has_bounds():
        raise Endless()
    heights = ascending([coordinates_of(vector)[-1] for vector, _ in spread.points])
    at = [0] * len(heights)
    above = [0] * len(heights)
    for low, high, own in _stretches(grid, spread, heights):
        if low == high:
            at[low] += own
        for place in range(low, high):
            above[place] -= own
        for place in range(low + 1, high):
            at[place] -= own
    return tuple(zip(heights, at, above))


def _stretches(grid, spread, heights):
    """For each cell of a bounded set the numbers of its least and greatest height, and 1 or -1 by its dimension."""
    places = {height: place for place, height in enumerate(heights)}
    ends = {}
    for vector, used in spread.points:
        place = places[coordinates_of(vector)[-1]]
        for number in numbers_in(used & spread.lot):
            low, high = ends.get(number, (place, place))
            ends[number] = (min(low, place), max(high, place))
    numbers = numbers_in(spread.lot)
    dimensions = cell_dimensions(grid.dimension, grid.planes, [grid.cells[number] for number in numbers])
    return [ends[number] + (_signed(own),) for number, own in zip(numbers, dimensions)]
