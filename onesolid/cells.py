"""Cells of planes: sets of the points with the same signs at all of them."""

from itertools import combinations

from onesolid.closures import closure_of, point_or_weights
from onesolid.errors import NotForm, NotRow, TooGreat
from onesolid.flats import flat_dimension, flat_of, flat_point
from onesolid.numbers import is_whole
from onesolid.rows import check_plane, signs_at
from onesolid.stars import flat_across, noughts_filled, signs_around

MOST_PLANES = {1: 60, 2: 24, 3: 16}


def check_planes(dimension, value):
    """The value, if it is a tuple of unlike planes of the dimension, not too many."""
    if not isinstance(value, tuple) or not all([_is_plane(dimension, thing) for thing in value]):
        raise NotForm("planes")
    if len(set(value)) < len(value):
        raise NotForm("planes")
    if len(value) > MOST_PLANES[dimension]:
        raise TooGreat(MOST_PLANES[dimension])
    return value


def _is_plane(dimension, value):
    try:
        check_plane(dimension, value)
    except NotRow:
        return False
    return True


def cells_of(dimension, planes):
    """The signs of all cells of some planes, ascending."""
    found = {}
    for flat in least_meets(dimension, planes):
        signs = signs_at(planes, flat_point(dimension, flat))
        for inner in signs_around(dimension, normals_at(planes, signs)):
            found[noughts_filled(signs, inner)] = True
    return tuple(sorted(found))


def least_meets(dimension, planes):
    """The intersections of planes that hold no lesser ones; they all go on alike, and each cell is around some."""
    rows = list(planes)
    rank = len(flat_across(dimension, [row[:-1] for row in rows]))
    found = {}
    for lot in combinations(rows, rank):
        flat = flat_of(dimension, lot)
        if flat is not None and len(flat) == rank:
            found[flat] = True
    return list(found)


def normals_at(planes, signs):
    """The coefficients of the planes that have the sign 0."""
    return [plane[:-1] for plane, sign in zip(planes, signs) if sign == 0]


def pairs_of_cell(planes, signs):
    """The pairs that hold at the points of a cell."""
    pairs = []
    for plane, sign in zip(planes, signs):
        if sign == 0:
            pairs.append(("eq", plane))
        else:
            pairs.append(("gt", tuple([sign * number for number in plane])))
    return pairs


def is_cell(dimension, planes, value):
    """Whether any value is the signs of a cell of some planes."""
    if not isinstance(value, tuple) or len(value) != len(planes):
        return False
    if not all([is_whole(sign) and -1 <= sign <= 1 for sign in value]):
        return False
    return closure_of(dimension, pairs_of_cell(planes, value)) is not None


def check_cell(dimension, planes, value):
    """The value, if it is the signs of a cell of some planes."""
    if not is_cell(dimension, planes, value):
        raise NotForm("cell")
    return value


def point_in(dimension, planes, signs):
    """A point of a cell."""
    return point_or_weights(dimension, pairs_of_cell(planes, signs))[0]


def cell_flat(dimension, planes, signs):
    """The flat of a cell: the intersection of the planes with the sign 0."""
    return flat_of(dimension, [plane for plane, sign in zip(planes, signs) if sign == 0])


def cell_dimension(dimension, planes, signs):
    """The dimension of a cell."""
    return flat_dimension(dimension, cell_flat(dimension, planes, signs))


def cell_dimensions(dimension, planes, cells):
    """The dimensions of some cells, in turn."""
    known = {}
    found = []
    for signs in cells:
        # Cells with the same noughts have the same flat.
        noughts = tuple([sign == 0 for sign in signs])
        if noughts not in known:
            known[noughts] = cell_dimension(dimension, planes, signs)
        found.append(known[noughts])
    return found
