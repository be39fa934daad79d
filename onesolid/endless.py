"""Cells that go on without end: far signs, and the directions along which a cell goes on."""

from onesolid.cells import pairs_of_cell
from onesolid.cones import cone_of, sum_of_rays
from onesolid.numbers import sign_of
from onesolid.points import direction_of
from onesolid.rows import slope
from onesolid.stars import flat_across, signs_around


def far_signs(planes, direction):
    """The signs of the slopes of some planes along a direction."""
    return tuple([sign_of(slope(plane, direction)) for plane in planes])


def far_cells(dimension, planes):
    """The far signs of all directions, ascending."""
    normals = [plane[:-1] for plane in planes]
    found = signs_around(dimension, normals)
    if len(flat_across(dimension, normals)) == dimension:
        # No direction lies in all of the planes.
        found = [far for far in found if any(far)]
    return tuple(sorted(found))


def direction_in(dimension, planes, far):
    """A direction with these far signs."""
    normals = [plane[:-1] for plane in planes]
    lines, rays = cone_of(dimension, pairs_of_cell(normals, far))
    if any(far):
        return direction_of(sum_of_rays(dimension, rays))
    return direction_of(lines[0])


def far_of(dimension, planes, signs):
    """The far signs of the directions along which a cell goes on, ascending."""
    found = far_cells(dimension, planes)
    return tuple([far for far in found if all([step in (0, sign) for step, sign in zip(far, signs)])])


def is_cell_bounded(dimension, planes, signs):
    """Whether a cell goes on along no direction."""
    return far_of(dimension, planes, signs) == ()
