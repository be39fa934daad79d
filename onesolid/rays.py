"""Rays and lines: where along them the points belong to a set, what is seen from a point, and shades."""

from onesolid.canon import form_of_lot, in_dict, lot_with
from onesolid.cells import MOST_PLANES
from onesolid.flats import flat_along, flat_directions, flat_point, flat_through
from onesolid.grids import Grid
from onesolid.needed import cut_at_most, flats_of
from onesolid.points import check_point, moved_by, steps_between
from onesolid.walks import (
    courses_along, first_on_ray, has_between, is_segment_in, line_bits, need_way, ray_bits, stretches_in,
)


def ray_stretches(form, point, way):
    """The greatest stretches of a ray the points of which belong to a set."""
    courses = _courses(form, point, way)
    return stretches_in(courses, ray_bits(courses), in_dict(form[2]))


def line_stretches(form, point, way):
    """The greatest stretches of a line the points of which belong to a set."""
    courses = _courses(form, point, way)
    return stretches_in(courses, line_bits(courses), in_dict(form[2]))


def _courses(form, point, way):
    """The courses of the planes of a form along a line, told by any values."""
    check_point(form[0], point)
    need_way(form[0], way)
    return courses_along(form[1], point, way)


def first_met(form, point, way):
    """("met", number, point) or ("near", number, point) of what a ray meets first of a set; None if of nothing."""
    check_point(form[0], point)
    need_way(form[0], way)
    found = first_on_ray(form[1], form[2], point, way)
    if found is None:
        return None
    word, number = found
    return (word, number, moved_by(point, way, number))


def met_planes(form, point, way):
    """The numbers of the planes that hold the point of what a ray meets first of a set, but not the whole ray."""
    found = first_met(form, point, way)
    if found is None:
        return None
    return planes_met(form[1], point, way, found[1])


def planes_met(planes, point, way, number):
    """The numbers, ascending, of the planes that hold the point of a ray with a number, but not the whole ray."""
    top, bottom = number
    courses = courses_along(planes, point, way)
    return tuple([place for place, (height, growth) in enumerate(courses)
                  if growth != 0 and height * bottom + growth * top == 0])


def is_seen(form, point, other):
    """Whether no point strictly between two belongs to a set."""
    check_point(form[0], point)
    check_point(form[0], other)
    return not has_between(form[1], form[2], point, other)


def is_straight_in(form, point, other):
    """Whether two points and all between them belong to a set."""
    check_point(form[0], point)
    check_point(form[0], other)
    return is_segment_in(form[1], form[2], point, other)


def shade(form, point):
    """The form of the shade of a set from a point."""
    dimension, planes, cells = form
    check_point(dimension, point)
    own = flats_of(form)
    flats = list(own) + [flat_through((point,))]
    for flat in own:
        steps = flat_directions(dimension, flat) + (steps_between(point, flat_point(dimension, flat)),)
        flats.append(flat_along(dimension, point, steps))
    # The whole space has no rows that could be taken.
    grid = Grid(dimension, cut_at_most(dimension, flats, MOST_PLANES[dimension]))
    inside = in_dict(cells)
    return form_of_lot(grid, lot_with(grid, lambda far: has_between(planes, inside, point, far)))
