"""The solids that meshes go around, and the meshes that go around solids."""

from onesolid.canon import form_of_lot, look_at_planes
from onesolid.cuttings import cut_cells, is_bounded
from onesolid.deeds import closed_lot, regular
from onesolid.errors import Endless, NotForm
from onesolid.flats import flat_along, flat_through
from onesolid.grids import grid_of, lot_of_numbers
from onesolid.meshes import some_direction
from onesolid.points import steps_between
from onesolid.rows import sign_at, slope, weighed
from onesolid.simplices import determinant
from onesolid.spreads import inner_points


def solid_of(dimension, mesh):
    """The form of the closure of all points around which a mesh goes an odd number of times."""
    grid = look_at_planes(dimension, [flat_through(side)[0] for side in mesh])
    return form_of_lot(grid, closed_lot(grid, _odd_lot(grid, mesh)))


def _odd_lot(grid, mesh):
    """The lot of those cells of the greatest dimension from which rays meet an odd number of sides."""
    full = lot_of_numbers([number for number, signs in enumerate(grid.cells) if 0 not in signs])
    # By the numbers of directions the rows of all sides, made as they are needed.
    known = []
    odd = []
    for number, point in inner_points(grid, full).items():
        if _met_by_some(grid.dimension, mesh, known, point) & 1 == 1:
            odd.append(number)
    return lot_of_numbers(odd)


def _met_by_some(dimension, mesh, known, point):
    """How many sides a ray from a point that is off their planes meets, along a direction along which it is let."""
    number = 0
    while True:
        if number == len(known):
            known.append(_rows_along(mesh, some_direction(dimension, number)))
        many = _met_by(known[number], point)
        if many is not None:
            return many
        number += 1


def _rows_along(mesh, direction):
    """For each side rows that are positive just at those points from which rays along a direction meet it within."""
    found = []
    for side in mesh:
        plane = flat_through(side)[0]
        growth = slope(plane, direction)
        # A ray from a point off the plane does not meet a side along which it goes.
        if growth != 0:
            found.append([_turned(plane, growth < 0)] + _rows_around(side, direction))
    return found


def _turned(row, is_kept):
    """A row, or what is its negative if it is not kept."""
    return row if is_kept else tuple([-number for number in row])


def _rows_around(side, direction):
    """The rows that are 0 on a direction and on all corners of a side but one, where they are positive."""
    rows = []
    for own, corner in enumerate(side):
        others = side[:own] + side[own + 1:]
        if others:
            steps = [steps_between(others[0], other) for other in others[1:]]
            row = flat_along(len(direction), others[0], steps + [direction])[0]
            rows.append(_turned(row, sign_at(row, corner) > 0))
    return rows


def _met_by(found, point):
    """How many sides, told by their rows, a ray from a point meets; None if it meets one at its rim."""
    many = 0
    for rows in found:
        least = min([weighed(row, point) for row in rows])
        if least == 0:
            return None
        if least > 0:
            many += 1
    return many


def is_rimmed(form):
    """Whether a set is bounded and the closure of its interior."""
    return is_bounded(form) and regular(form) == form


def walls(form):
    """The signs of the cells between a cell of the greatest dimension in the set and one that is not, ascending."""
    grid, lot = grid_of(form)
    return tuple([grid.cells[number] for number, _ in _pairs_beside(grid, lot)])


def _pairs_beside(grid, lot):
    """Pairs of the number of a wall and that of the cell beside it that is in the set."""
    found = []
    for number, signs in enumerate(grid.cells):
        if signs.count(0) == 1:
            place = signs.index(0)
            beside = [grid.numbers[signs[:place] + (sign,) + signs[place + 1:]] for sign in (-1, 1)]
            inside = [own for own in beside if (lot >> own) & 1 == 1]
            if len(inside) == 1:
                found.append((number, inside[0]))
    return found


def mesh_of(form):
    """The mesh of the walls of a bounded set that is the closure of its interior, told by their cuttings."""
    if not is_bounded(form):
        raise Endless()
    if not is_rimmed(form):
        raise NotForm("rim")
    grid, lot = grid_of(form)
    pairs = _pairs_beside(grid, lot)
    simplices = cut_cells(grid, lot_of_numbers([number for number, _ in pairs]))
    points = inner_points(grid, lot)
    sides = []
    for number, inside in pairs:
        for simplex in simplices[number]:
            if len(simplex) == grid.dimension:
                sides.append(_facing(simplex, points[inside]))
    return tuple(sorted(sides))


def _facing(simplex, point):
    """The corners of a side in the sequence that a point on the inner side of it tells."""
    if len(simplex) == 1 or determinant(simplex + (point,)) > 0:
        return simplex
    return simplex[:-2] + (simplex[-1], simplex[-2])
