"""Hulls of sets told anew: by the corners of cells and the edges along which they go on, tried one by one."""

from fractions import Fraction
from itertools import combinations

from anew import has_points, reduced, whole
from onesolid.endless import direction_in, far_cells
from onesolid.faces import cell_corners
from onesolid.flats import flat_directions, flat_of


def edges_of(dimension, planes):
    """The directions of the far signs that lie in planes with just one direction in common, by these signs."""
    found = {}
    for far in far_cells(dimension, planes):
        rows = [plane[:-1] for plane, sign in zip(planes, far) if sign == 0]
        if len(reduced(rows)) == dimension - 1:
            found[far] = direction_in(dimension, planes, far)
    return found


def spanning(form):
    """For each cell of a form the vectors of its corners, and of the edges along which it goes on."""
    dimension, planes, cells = form
    edges = edges_of(dimension, planes)
    found = {}
    for signs in cells:
        vectors = list(cell_corners(dimension, planes, signs))
        for far, direction in edges.items():
            if all(step in (0, sign) for step, sign in zip(far, signs)):
                vectors.append(direction + (0,))
        found[signs] = vectors
    return found


def residue(rows, vector):
    """What of a vector remains if reduced rows are taken from it."""
    left = [Fraction(number) for number in vector]
    for row in rows:
        place = next(k for k, number in enumerate(row) if number != 0)
        left = [a - left[place] * b for a, b in zip(left, row)]
    return left


def flat_spanned(dimension, rows):
    """The flat, reduced, of all rows that are 0 at some vectors."""
    nought = flat_of(dimension + 1, [whole(row) + (0,) for row in rows])
    return flat_of(dimension, flat_directions(dimension + 1, nought))


def walls_spanned(vectors):
    """Spans, reduced, of the walls of all sums of vectors, among these at least one of a point."""
    rank = len(reduced(vectors))
    found = set()
    for lot in combinations(sorted(set(vectors)), rank - 1):
        rows = reduced(lot)
        if len(rows) == rank - 1:
            left = [(vector, residue(rows, vector)) for vector in vectors]
            off = [rest for _, rest in left if any(rest)]
            place = next(k for k, number in enumerate(off[0]) if number != 0)
            on = [vector for vector, rest in left if not any(rest)]
            if len({rest[place] > 0 for rest in off}) == 1 and any(vector[-1] > 0 for vector in on):
                found.add(tuple(tuple(row) for row in rows))
    return found


def hull_flats_anew(dimension, vectors_by_cell):
    """The hull flats of the union of some cells."""
    if not vectors_by_cell:
        return set()
    vectors = [vector for own in vectors_by_cell.values() for vector in own]
    found = {flat_spanned(dimension, reduced(vectors))}
    for rows in walls_spanned(vectors):
        found.add(flat_spanned(dimension, rows))
        inside = {signs: own for signs, own in vectors_by_cell.items()
                  if all(not any(residue(rows, vector)) for vector in own)}
        found |= hull_flats_anew(dimension, inside)
    return found - {()}


def breaks_ladder(pairs, ladder, turn, dimension):
    """Whether at some point of a cell the first sign of the rows, with a turn, that is not 0 is -1."""
    zero = list(pairs)
    for row in ladder:
        turned = tuple(-turn * number for number in row)
        if has_points(zero + [("gt", turned)], dimension):
            return True
        zero.append(("eq", row))
    return False


def is_ladder_anew(dimension, cells, others, ladder):
    """Whether a tuple of rows is a ladder on two sets, told by the pairs of their cells."""
    if any(breaks_ladder(pairs, ladder, 1, dimension) for pairs in cells):
        return False
    if any(breaks_ladder(pairs, ladder, -1, dimension) for pairs in others):
        return False
    zero = [("eq", row) for row in ladder]
    return not (any(has_points(list(pairs) + zero, dimension) for pairs in cells)
                and any(has_points(list(pairs) + zero, dimension) for pairs in others))
