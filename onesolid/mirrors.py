"""Points and ways mirrored at planes, and rays that bounce off a set."""

from onesolid.canon import in_dict, is_inside
from onesolid.deeds import closed
from onesolid.errors import NotRow, Unlike
from onesolid.flats import on_flat
from onesolid.needed import flats_of
from onesolid.numbers import shortened
from onesolid.points import check_point, direction_of, moved_by
from onesolid.rows import check_plane, product_of, slope, weighed
from onesolid.walks import courses_along, first_bit, need_way, ray_bits

LONGEST_PLANE = 4


def mirrored(plane, point):
    """The point mirrored at a plane."""
    check_point(_dimension_of_plane(plane), point)
    square = product_of(plane[:-1], plane[:-1])
    twice = 2 * weighed(plane, point)
    numbers = [number * square - twice * step for number, step in zip(point[:-1], plane[:-1])]
    return shortened(numbers + [point[-1] * square])


def mirrored_way(plane, way):
    """The direction of a way mirrored at a plane."""
    need_way(_dimension_of_plane(plane), way)
    square = product_of(plane[:-1], plane[:-1])
    twice = 2 * slope(plane, way)
    return direction_of(tuple([square * step - twice * own for step, own in zip(way, plane[:-1])]))


def _dimension_of_plane(plane):
    """The dimension of any value, if it is a plane."""
    if not isinstance(plane, tuple) or not 2 <= len(plane) <= LONGEST_PLANE:
        raise NotRow(-1)
    dimension = len(plane) - 1
    check_plane(dimension, plane)
    return dimension


def bounces(form, point, way, many):
    """How a ray is mirrored at planes of a set, so many times at most, and how it ends."""
    check_point(form[0], point)
    need_way(form[0], way)
    closure = closed(form)
    if form[0] == 1 or is_inside(closure, point):
        raise Unlike()
    planes = closure[1]
    cells = in_dict(closure[2])
    flats = flats_of(form)
    hops = []
    while True:
        courses = courses_along(planes, point, way)
        # The ray begins on the closure only where it comes from, behind a hop.
        bit = first_bit(courses, ray_bits(courses)[1:], cells)
        if bit is None:
            return (tuple(hops), ("away",))
        point = moved_by(point, way, bit[0])
        through = [flat for flat in flats if on_flat(flat, point)]
        if len(through) > 1 or len(through[0]) > 1:
            return (tuple(hops), ("edge", point))
        if len(hops) == many:
            return (tuple(hops), ("many", point))
        plane = through[0][0]
        way = mirrored_way(plane, way)
        hops.append((point, plane, way))
