"""The looks at the points of cells: the greatest flats along which a set, a lot of cells, is the same all around."""

from onesolid.flats import flat_of, in_sequence, is_on_row
from onesolid.grids import at_places, zero_places


def hangs_by(grid, lot, star, places):
    """Whether of a star, a lot, any two cells with the same signs at the planes at some places are both in the set."""
    alike = [star]
    for place in places:
        alike = [part & side for part in alike for side in grid.sides[place] if part & side != 0]
    return all([part & lot in (0, part) for part in alike])


def meets_at(grid, places):
    """The intersections of planes with a common point, in sequence, each with the places of the planes through it."""
    flats = {(): True}
    for place in places:
        for flat in list(flats):
            flats[flat_of(grid.dimension, flat + (grid.planes[place],))] = True
    return [(flat, places_on(grid, places, flat)) for flat in in_sequence(list(flats))]


def places_on(grid, places, flat):
    """Those of some places the planes of which contain a flat."""
    return tuple([place for place in places if is_on_row(flat, grid.planes[place])])


def look_among(grid, lot, star, meets):
    """The look at the points of a cell with this star, which is one of the meets of the planes through them."""
    if star & lot in (0, star):
        return ()
    return [flat for flat, places in meets if hangs_by(grid, lot, star, places)][0]


def looks_at_cells(grid, lot):
    """The looks at the points of each of the cells, as their numbers ascend."""
    meets = {}
    looks = []
    for signs in grid.cells:
        places = zero_places(signs)
        if places not in meets:
            meets[places] = meets_at(grid, places)
        looks.append(look_among(grid, lot, grid.star(signs), meets[places]))
    return looks


def flats_in(grid, lot):
    """The flats of a set, in sequence: the looks but the whole space."""
    return tuple([flat for flat in in_sequence(looks_at_cells(grid, lot)) if flat != ()])


def signs_around_look(grid, lot, signs, flat):
    """The signs, at the planes that contain the look at a cell, of the cells of the set around it, ascending."""
    places = places_on(grid, zero_places(signs), flat)
    return tuple(sorted({at_places(cell, places) for cell in grid.cells_in(grid.star(signs) & lot)}))
