"""The nearest points of sets, and how far two sets are from one another."""

from onesolid.canon import in_dict, is_inside, lot_by_rows
from onesolid.deeds import closed
from onesolid.errors import Empty, Unlike
from onesolid.flats import flat_along, flat_directions, flat_meet, flat_of, flat_point, in_sequence
from onesolid.grids import Grid, at_places, zero_places
from onesolid.numbers import NOUGHT, compared, in_order, lowest, shortened
from onesolid.papers import is_point
from onesolid.points import check_point, steps_between
from onesolid.rows import plane_of, product_of, rows_along, signs_at, weighed
from onesolid.stars import flat_across


def nearest(form, point):
    """The least squared distance of a point from the closure of a set, where it is, and whether that is in the set."""
    check_point(form[0], point)
    if not form[2]:
        raise Empty()
    dimension, planes, cells = closed(form)
    inside = in_dict(cells)
    feet = [_foot(dimension, flat, point) for flat in _flats_of_cells(dimension, planes, cells)]
    told = {foot: square_between(point, foot) for foot in feet if signs_at(planes, foot) in inside}
    least = in_order(list(told.values()))[0]
    points = tuple(sorted([foot for foot, square in told.items() if square == least]))
    return (least, points, tuple([is_inside(form, own) for own in points]))


def _flats_of_cells(dimension, planes, cells):
    """The unlike flats of some cells, points first."""
    lots = {zero_places(signs): True for signs in cells}
    return list(reversed(in_sequence([flat_of(dimension, at_places(planes, places)) for places in list(lots)])))


def _foot(dimension, flat, point):
    """The point of a flat that is nearest to a point."""
    across = flat_along(dimension, point, [row[:-1] for row in flat])
    return flat_point(dimension, flat_meet(dimension, flat, across))


def square_between(point, other):
    """The squared distance of two points."""
    steps = steps_between(point, other)
    weight = point[-1] * other[-1]
    return lowest(product_of(steps, steps), weight * weight)


def distance(form, other):
    """The squared distance of two sets, and whether a point of the one has it from a point of the other one."""
    square = _nearest_pair(form, other)[0]
    return (square, _is_met(form, other, square))


def nearest_pair(form, other):
    """Points of the closures of two sets that have their squared distance."""
    return _nearest_pair(form, other)[1]


def is_nearest_pair(form, other, value):
    """Whether any value is a pair of points of the closures of two sets that have their squared distance."""
    _check_two(form, other)
    if not isinstance(value, tuple) or len(value) != 2 or not all([is_point(form[0], thing) for thing in value]):
        return False
    square = _nearest_pair(form, other)[0]
    if not is_inside(closed(form), value[0]) or not is_inside(closed(other), value[1]):
        return False
    return square_between(value[0], value[1]) == square


def _check_two(form, other):
    if form[0] != other[0]:
        raise Unlike()
    if not form[2] or not other[2]:
        raise Empty()


def _nearest_pair(form, other):
    """The squared distance of two sets, and a pair of points of their closures that have it."""
    _check_two(form, other)
    dimension, planes, cells = closed(form)
    _, other_planes, other_cells = closed(other)
    inside = in_dict(cells)
    other_inside = in_dict(other_cells)
    # Some nearest points are those of flats that have no other directions in common than all planes have.
    shared = dimension - len(flat_across(dimension, [plane[:-1] for plane in planes + other_planes]))
    others = _framed(dimension, _flats_of_cells(dimension, other_planes, other_cells))
    least = None
    for frame in _framed(dimension, _flats_of_cells(dimension, planes, cells)):
        for other_frame in others:
            if dimension - len(frame[0]) - len(other_frame[0]) > shared or _is_no_nearer(frame, other_frame, least):
                continue
            point, far, _ = _nearest_on_flats(dimension, frame[0], other_frame[0])
            square = square_between(point, far)
            if least is None or compared(square, least[0]) < 0:
                if signs_at(planes, point) in inside and signs_at(other_planes, far) in other_inside:
                    least = (square, (point, far))
    return least


def _framed(dimension, flats):
    """Triples of each of some flats, a point of it, and its directions."""
    return [(flat, flat_point(dimension, flat), flat_directions(dimension, flat)) for flat in flats]


def _is_no_nearer(frame, other, least):
    """Whether it is plain that no points of two flats are nearer than a pair, if there is one, behind its square."""
    if least is None or least[0][0] == 0:
        return least is not None
    square = _square_if_point(frame, other)
    return square is not None and compared(square, least[0]) >= 0


def _square_if_point(frame, other):
    """The squared distance of two flats if one of them is a point, otherwise None."""
    if frame[2] == ():
        return _square_from(other, frame[1])
    return _square_from(frame, other[1]) if other[2] == () else None


def _square_from(frame, point):
    """The squared distance of a point from a flat: the whole space, a plane, a line or a point."""
    flat, base, directions = frame
    if len(flat) == 0:
        return NOUGHT
    if len(flat) == 1:
        height = weighed(flat[0], point)
        return lowest(height * height, product_of(flat[0][:-1], flat[0][:-1]) * point[-1] * point[-1])
    if directions == ():
        return square_between(point, base)
    # What of the way to a point of the line does not lead along it.
    steps = steps_between(point, base)
    weight = point[-1] * base[-1]
    along = product_of(steps, directions[0])
    length = product_of(directions[0], directions[0])
    return lowest(product_of(steps, steps) * length - along * along, length * weight * weight)


def _nearest_on_flats(dimension, flat, other):
    """A point of each of two flats, no two points of which are nearer, and the directions that these have in common."""
    nought = (0,) * dimension
    rows = [row[:-1] + nought + row[-1:] for row in flat] + [nought + row for row in other]
    for step in flat_directions(dimension, flat) + flat_directions(dimension, other):
        rows.append(step + tuple([-number for number in step]) + (0,))
    # Both points are the coordinates of one in a space of twice the dimension.
    pairs = flat_of(2 * dimension, rows)
    twin = flat_point(2 * dimension, pairs)
    directions = [step[:dimension] for step in flat_directions(2 * dimension, pairs)]
    return shortened(twin[:dimension] + twin[-1:]), shortened(twin[dimension:]), directions


def _is_met(form, other, square):
    """Whether a point of one set has the squared distance of both sets from a point of the other one."""
    dimension = form[0]
    if square[0] == 0:
        return _are_both_met(form, other, _nearest_on_flats(dimension, (), ()))
    frames = _framed(dimension, _flats_of_cells(dimension, form[1], form[2]))
    others = _framed(dimension, _flats_of_cells(dimension, other[1], other[2]))
    for frame in frames:
        for other_frame in others:
            if _square_if_point(frame, other_frame) not in (None, square):
                continue
            near = _nearest_on_flats(dimension, frame[0], other_frame[0])
            if square_between(near[0], near[1]) == square and _are_both_met(form, other, near):
                return True
    return False


def _are_both_met(form, other, near):
    """Whether two points, both moved along the same of some directions, come into two sets."""
    point, far, directions = near
    if not directions:
        return is_inside(form, point) and is_inside(other, far)
    rows = rows_along(form[1], point, directions)
    other_rows = rows_along(other[1], far, directions)
    planes = {plane_of(row): True for row in rows + other_rows}
    grid = Grid(len(directions), tuple([plane for plane in list(planes) if plane is not None]))
    return lot_by_rows(grid, rows, in_dict(form[2])) & lot_by_rows(grid, other_rows, in_dict(other[2])) != 0
