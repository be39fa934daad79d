"""The signs that some normals have all around a point that their planes have in common: the cells of its star."""

from itertools import combinations

from onesolid.flats import flat_directions, flat_of
from onesolid.numbers import sign_of
from onesolid.rows import weighed


def signs_around(size, normals):
    """The tuples of signs that normals, none of them all 0, have along the directions of a space, also along none."""
    rank = len(flat_across(size, normals))
    if rank == len(normals):
        return _all_signs(rank)
    found = {(0,) * len(normals): True}
    for _, signs in edges_around(size, normals, rank - 1):
        # Every other cell lies around an edge, on this side of the point or on the opposite one.
        opposite = tuple([-sign for sign in signs])
        for inner in signs_around(size, [normal for normal, sign in zip(normals, signs) if sign == 0]):
            found[noughts_filled(signs, inner)] = True
            found[noughts_filled(opposite, inner)] = True
    return list(found)


def flat_across(size, normals):
    """The flat through the origin along which some normals are all 0."""
    return flat_of(size, [normal + (0,) for normal in normals])


def noughts_filled(signs, inner):
    """The signs with those of another tuple in place of the noughts, in turn."""
    filled = list(signs)
    used = 0
    for place, sign in enumerate(signs):
        if sign == 0:
            filled[place] = inner[used]
            used += 1
    return tuple(filled)


def _all_signs(many):
    """All tuples of so many signs."""
    found = [()]
    for _ in range(many):
        found = [signs + (sign,) for signs in found for sign in (-1, 0, 1)]
    return found


def edges_around(size, normals, many):
    """The directions of the edges around the point, in one of both senses each, and the signs of the normals there.

    So many independent normals are 0 along each edge: one less than are independent of all.
    """
    found = {}
    for lot in combinations(normals, many):
        flat = flat_across(size, lot)
        if len(flat) == many:
            direction, signs = _edge_along(normals, flat_directions(size, flat))
            found[tuple([sign == 0 for sign in signs])] = (direction, signs)
    return list(found.values())


def _edge_along(normals, directions):
    """The first of some directions along which not all normals are 0, and their signs there."""
    for direction in directions:
        signs = tuple([sign_of(weighed(normal, direction)) for normal in normals])
        if any(signs):
            return direction, signs
    return None
