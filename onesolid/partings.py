"""Points that part two sets: those of just one of them."""

from onesolid.canon import is_inside
from onesolid.errors import NotPaper, Unlike
from onesolid.grids import Grid, grid_of, numbers_in
from onesolid.papers import is_point
from onesolid.rows import sign_at
from onesolid.segments import just_behind
from onesolid.sights import looks_at_cells
from onesolid.spreads import inner_points


def parting(form, other):
    """A point that belongs to just one of two sets, None if they are equal."""
    if form[0] != other[0]:
        raise Unlike()
    if form == other:
        return None
    if form[1] == other[1]:
        grid, lot = grid_of(form)
        return _point_of_one(grid, lot ^ grid.lot_of(other[2]))
    # Sets with the same flats have the same planes, so one has a flat that the other has not.
    point = _point_with_own_look(form, other)
    if point is None:
        point = _point_with_own_look(other, form)
    return _parting_near(form, other, point)


def _point_of_one(grid, lot):
    """A point of the first cell of a lot."""
    number = numbers_in(lot)[0]
    return inner_points(grid, 1 << number)[number]


def _point_with_own_look(form, other):
    """A point at which one set has a look that is no flat of another one, None if there is none."""
    grid, lot = grid_of(form)
    other_grid, other_lot = grid_of(other)
    others = looks_at_cells(other_grid, other_lot)
    for number, flat in enumerate(looks_at_cells(grid, lot)):
        if flat != () and flat not in others:
            return _point_of_one(grid, 1 << number)
    return None


def _parting_near(form, other, point):
    """A point that belongs to just one of two sets, given a point near which they are not the same."""
    planes = form[1] + other[1]
    through = tuple(sorted({plane for plane in planes if sign_at(plane, point) == 0}))
    grid = Grid(form[0], through)
    for _, target in sorted(inner_points(grid, grid.whole).items()):
        found = just_behind(planes, point, target) if target != point else point
        if is_inside(form, found) != is_inside(other, found):
            return found
    return None


def check_parting(form, other, value):
    """True for any value that is a point of just one of two sets."""
    if form[0] != other[0]:
        raise Unlike()
    if not is_point(form[0], value):
        raise NotPaper("form")
    if is_inside(form, value) == is_inside(other, value):
        raise NotPaper("parting")
    return True
