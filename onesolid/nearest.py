"""The nearest points of sets, and how far two sets are from one another."""

from onesolid.canon import in_dict, is_inside, lot_by_rows
from onesolid.deeds import closed
from onesolid.errors import Empty, Unlike
from onesolid.flats import flat_along, flat_directions, flat_meet, flat_of, flat_point
from onesolid.grids import Grid, at_places, zero_places
from onesolid.numbers import in_order, lowest, shortened
from onesolid.papers import is_point
from onesolid.points import check_point, steps_between
from onesolid.rows import plane_of, product_of, rows_along, signs_at
from onesolid.stars import flat_across


def nearest(form, point):
    """The least squared distance of a point from the closure of a set, where it is, and whether that is in the set."""
    check_point(form[0], point)
    if not form[2]:
        raise Empty()
    dimension, planes, cells = closed(form)
    inside = in_dict(cells)
    feet = [_foot(dimension, flat, point) for flat in _flats_of_cells(dimension, planes, cells)]
    told = {foot: square_between(point, foot) for foot in feet if signs_at(planes, foot) in inside}
    least = in_order(list(told.values()))[0]
    points = tuple(sorted([foot for foot, square in told.items() if square == least]))
    return (least, points, tuple([is_inside(form, own) for own in points]))


def _flats_of_cells(dimension, planes, cells):
    """The unlike flats of some cells."""
    lots = {zero_places(signs): True for signs in cells}
    return list({flat_of(dimension, at_places(planes, places)): True for places in list(lots)})


def _foot(dimension, flat, point):
    """The point of a flat that is nearest to a point."""
    across = flat_along(dimension, point, [row[:-1] for row in flat])
    return flat_point(dimension, flat_meet(dimension, flat, across))


def square_between(point, other):
    """The squared distance of two points."""
    steps = steps_between(point, other)
    weight = point[-1] * other[-1]
    return lowest(product_of(steps, steps), weight * weight)


def distance(form, other):
    """The squared distance of two sets, and whether a point of the one has it from a point of the other one."""
    square = _nearest_pair(form, other)[0]
    return (square, _is_met(form, other, square))


def nearest_pair(form, other):
    """Points of the closures of two sets that have their squared distance."""
    return _nearest_pair(form, other)[1]


def is_nearest_pair(form, other, value):
    """Whether any value is a pair of points of the closures of two sets that have their squared distance."""
    _check_two(form, other)
    if not isinstance(value, tuple) or len(value) != 2 or not all([is_point(form[0], thing) for thing in value]):
        return False
    square = _nearest_pair(form, other)[0]
    if not is_inside(closed(form), value[0]) or not is_inside(closed(other), value[1]):
        return False
    return square_between(value[0], value[1]) == square


def _check_two(form, other):
    if form[0] != other[0]:
        raise Unlike()
    if not form[2] or not other[2]:
        raise Empty()


def _nearest_pair(form, other):
    """The squared distance of two sets, and a pair of points of their closures that have it."""
    _check_two(form, other)
    dimension, planes, cells = closed(form)
    _, other_planes, other_cells = closed(other)
    inside = in_dict(cells)
    other_inside = in_dict(other_cells)
    # Some nearest points are those of flats that have no other directions in common than all planes have.
    shared = dimension - len(flat_across(dimension, [plane[:-1] for plane in planes + other_planes]))
    told = {}
    for flat in _flats_of_cells(dimension, planes, cells):
        for other_flat in _flats_of_cells(dimension, other_planes, other_cells):
            if dimension - len(flat) - len(other_flat) <= shared:
                point, far, directions = _nearest_on_flats(dimension, flat, other_flat)
                is_in = signs_at(planes, point) in inside and signs_at(other_planes, far) in other_inside
                if len(directions) == shared and is_in:
                    told[(point, far)] = square_between(point, far)
    least = in_order(list(told.values()))[0]
    return least, min([pair for pair, square in told.items() if square == least])


def _nearest_on_flats(dimension, flat, other):
    """A point of each of two flats, no two points of which are nearer, and the directions that these have in common."""
    nought = (0,) * dimension
    rows = [row[:-1] + nought + row[-1:] for row in flat] + [nought + row for row in other]
    for step in flat_directions(dimension, flat) + flat_directions(dimension, other):
        rows.append(step + tuple([-number for number in step]) + (0,))
    # Both points are the coordinates of one in a space of twice the dimension.
    pairs = flat_of(2 * dimension, rows)
    twin = flat_point(2 * dimension, pairs)
    directions = [step[:dimension] for step in flat_directions(2 * dimension, pairs)]
    return shortened(twin[:dimension] + twin[-1:]), shortened(twin[dimension:]), directions


def _is_met(form, other, square):
    """Whether a point of one set has the squared distance of both sets from a point of the other one."""
    dimension = form[0]
    if square[0] == 0:
        return _are_both_met(form, other, _nearest_on_flats(dimension, (), ()))
    flats = _flats_of_cells(dimension, form[1], form[2])
    other_flats = _flats_of_cells(dimension, other[1], other[2])
    for flat in flats:
        for other_flat in other_flats:
            near = _nearest_on_flats(dimension, flat, other_flat)
            if square_between(near[0], near[1]) == square and _are_both_met(form, other, near):
                return True
    return False


def _are_both_met(form, other, near):
    """Whether two points, both moved along the same of some directions, come into two sets."""
    point, far, directions = near
    if not directions:
        return is_inside(form, point) and is_inside(other, far)
    rows = rows_along(form[1], point, directions)
    other_rows = rows_along(other[1], far, directions)
    planes = {plane_of(row): True for row in rows + other_rows}
    grid = Grid(len(directions), tuple([plane for plane in list(planes) if plane is not None]))
    return lot_by_rows(grid, rows, in_dict(form[2])) & lot_by_rows(grid, other_rows, in_dict(other[2])) != 0
