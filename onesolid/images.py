"""Sets drawn on and back by tables, their shadows and slices, and sets moved."""

from onesolid.canon import form_by_rows, form_of_lot, in_dict, lot_by_rows, lot_with
from onesolid.cells import MOST_PLANES
from onesolid.deeds import rest
from onesolid.errors import NotMap, Unlike
from onesolid.flatmaps import flat_image
from onesolid.flats import flat_directions, flat_of, flat_point
from onesolid.grids import Grid
from onesolid.holding import put_through
from onesolid.needed import cut_at_most, flats_of
from onesolid.numbers import wrong_place
from onesolid.points import check_point
from onesolid.rows import coordinate_row, plane_of, rows_along, signs_at, slope

LARGEST_SPACE = 3


def _is_table(value):
    """Whether any value is a tuple of 1 to 3 rows, all in one dimension from 1 to 3."""
    if not isinstance(value, tuple) or not 1 <= len(value) <= LARGEST_SPACE:
        return False
    if not isinstance(value[0], tuple) or not 2 <= len(value[0]) <= LARGEST_SPACE + 1:
        return False
    return all([wrong_place(row, len(value[0])) is None for row in value])


def drawn_on(form, table):
    """The form of the set of the images, by a table in the form's dimension, of the points of the set."""
    if not _is_table(table) or len(table[0]) != form[0] + 1:
        raise NotMap()
    return _drawn(form, table)


def _drawn(form, table):
    dimension = len(table)
    images = [flat_image(form[0], flat, table) for flat in ((),) + flats_of(form)]
    grid = Grid(dimension, cut_at_most(dimension, images, MOST_PLANES[dimension]))
    cells = in_dict(form[2])
    return form_of_lot(grid, lot_with(grid, lambda point: _is_led_from(form, cells, table, point)))


def _is_led_from(form, cells, table, point):
    """Whether a table leads some point of a set, told by its form and by its cells in a dict, to a point."""
    weight = point[-1]
    rows = []
    for row, number in zip(table, point):
        rows.append(tuple([weight * part for part in row[:-1]]) + (weight * row[-1] - number,))
    source = flat_of(form[0], rows)
    return source is not None and _is_met(form, cells, source)


def _is_met(form, cells, flat):
    """Whether some point of a flat belongs to a set."""
    dimension, planes, _ = form
    point = flat_point(dimension, flat)
    directions = flat_directions(dimension, flat)
    if not directions:
        return signs_at(planes, point) in cells
    rows = rows_along(planes, point, directions)
    found = {plane_of(row): True for row in rows}
    unlike = tuple([plane for plane in list(found) if plane is not None])
    return lot_by_rows(Grid(len(directions), unlike), rows, cells) != 0


def drawn_back(form, table):
    """The form of the points whose images by a table, with a row for each dimension of the form, are in the set."""
    if not _is_table(table) or len(table) != form[0]:
        raise NotMap()
    dimension = len(table[0]) - 1
    return form_by_rows(dimension, [put_through(dimension, table, plane) for plane in form[1]], form)


def shadow(form):
    """The form of the points of the set without their last coordinate."""
    dimension = form[0]
    if dimension == 1:
        raise Unlike()
    return _drawn(form, tuple([coordinate_row(dimension, place) for place in range(dimension - 1)]))


def full_shadow(form):
    """The form of the points above which every value of the last coordinate gives a point of the set."""
    if form[0] == 1:
        raise Unlike()
    return rest(shadow(rest(form)))


def slice_at(form, value):
    """The form of the points above which a value of the last coordinate, a fraction, gives a point of the set."""
    dimension, planes, _ = form
    if dimension == 1:
        raise Unlike()
    top, bottom = value
    rows = []
    for plane in planes:
        coefficients = [bottom * number for number in plane[:-2]]
        rows.append(tuple(coefficients) + (top * plane[-2] + bottom * plane[-1],))
    return form_by_rows(dimension - 1, rows, form)


def shifted(form, point):
    """The form of all sums of a point of the set and the point."""
    dimension, planes, _ = form
    check_point(dimension, point)
    weight = point[-1]
    rows = []
    for plane in planes:
        coefficients = [weight * number for number in plane[:-1]]
        rows.append(tuple(coefficients) + (weight * plane[-1] - slope(plane, point),))
    return form_by_rows(dimension, rows, form)


def turned_about(form):
    """The form of the points with the coordinates of points of the set, each times -1."""
    return scaled(form, (-1, 1))


def scaled(form, value):
    """The form of the points with the coordinates of points of the set, each times a fraction other than 0."""
    dimension, planes, _ = form
    top, bottom = value
    if top < 0:
        top, bottom = -top, -bottom
    rows = []
    for plane in planes:
        rows.append(tuple([bottom * number for number in plane[:-1]]) + (top * plane[-1],))
    return form_by_rows(dimension, rows, form)
