"""Faces and stars of cells, and the cells through which a segment goes."""

from onesolid.cells import cell_dimension, normals_at, pairs_of_cell
from onesolid.closures import closure_of, is_at_points, is_zero
from onesolid.cones import face_zeros
from onesolid.stars import noughts_filled, signs_around
from onesolid.walks import courses_between, segment_bits, signs_at_number


def cell_faces(dimension, planes, signs):
    """The signs of the faces of a cell, also of itself, ascending."""
    rays = closure_of(dimension, pairs_of_cell(planes, signs))[1]
    return tuple(sorted([_face_signs(signs, zeros) for zeros in face_zeros(rays) if is_at_points(zeros)]))


def _face_signs(signs, zeros):
    """The signs of a cell with 0 at those planes that are 0 on a face."""
    return tuple([0 if is_zero(zeros, number) else sign for number, sign in enumerate(signs)])


def wall_cells(dimension, planes, signs):
    """The signs of the faces of a cell with one dimension less, ascending."""
    wanted = cell_dimension(dimension, planes, signs) - 1
    found = cell_faces(dimension, planes, signs)
    return tuple([face for face in found if cell_dimension(dimension, planes, face) == wanted])


def cell_star(dimension, planes, signs):
    """The signs of the cells of which a cell is a face, also of itself, ascending."""
    around = signs_around(dimension, normals_at(planes, signs))
    return tuple(sorted([noughts_filled(signs, inner) for inner in around]))


def cell_corners(dimension, planes, signs):
    """The points that are faces of a cell, ascending."""
    lines, rays = closure_of(dimension, pairs_of_cell(planes, signs))
    if lines:
        return ()
    return tuple(sorted([vector for vector, zeros in rays if is_at_points(zeros)]))


def toward(signs, other):
    """The signs of the cell in which a segment from a point of one cell to a point of another one begins."""
    return tuple([own if own != 0 else further for own, further in zip(signs, other)])


def step_through(dimension, planes, point, other):
    """The signs of the cells to which the points of a segment belong, in the sequence in which it enters them."""
    courses = courses_between(planes, point, other)
    found = []
    for _, _, number in segment_bits(courses):
        signs = signs_at_number(courses, number)
        if not found or found[-1] != signs:
            found.append(signs)
    return tuple(found)
