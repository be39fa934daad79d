"""Complements, intersections, unions, closures and interiors of sets, and how two sets lie to one another."""

from onesolid.canon import form_of_lot, in_dict, look_at_planes, lot_by_rows
from onesolid.errors import Unlike
from onesolid.grids import Grid, grid_of


def rest(form):
    """The form of the complement."""
    dimension, planes, cells = form
    grid = Grid(dimension, planes)
    # A set and its complement have the same flats.
    return (dimension, planes, tuple(grid.cells_in(grid.whole ^ grid.lot_of(cells))))


def both(form, other):
    """The form of the points that belong to both sets."""
    grid, lots = _looked_at(form[0], (form, other))
    return form_of_lot(grid, lots[0] & lots[1])


def either(form, other):
    """The form of the points that belong to at least one of both sets."""
    grid, lots = _looked_at(form[0], (form, other))
    return form_of_lot(grid, lots[0] | lots[1])


def less(form, other):
    """The form of the points that belong to the first set, but not to the other one."""
    grid, lots = _looked_at(form[0], (form, other))
    return form_of_lot(grid, lots[0] & ~lots[1])


def either_one(form, other):
    """The form of the points that belong to just one of both sets."""
    grid, lots = _looked_at(form[0], (form, other))
    return form_of_lot(grid, lots[0] ^ lots[1])


def all_of(dimension, forms):
    """The form of the points that belong to all of some sets."""
    grid, lots = _looked_at(dimension, forms)
    common = grid.whole
    for lot in lots:
        common &= lot
    return form_of_lot(grid, common)


def any_of(dimension, forms):
    """The form of the points that belong to at least one of some sets."""
    grid, lots = _looked_at(dimension, forms)
    union = 0
    for lot in lots:
        union |= lot
    return form_of_lot(grid, union)


def _looked_at(dimension, forms):
    """The grid of the planes of all forms, and the lot of its cells that lie in the set of each."""
    if any([form[0] != dimension for form in forms]):
        raise Unlike()
    grid = look_at_planes(dimension, [plane for form in forms for plane in form[1]])
    return grid, [lot_by_rows(grid, form[1], in_dict(form[2])) for form in forms]


def closed(form):
    """The form of the closure."""
    grid, lot = grid_of(form)
    return form_of_lot(grid, closed_lot(grid, lot))


def inner(form):
    """The form of the interior."""
    grid, lot = grid_of(form)
    return form_of_lot(grid, inner_lot(grid, lot))


def rim(form):
    """The form of the closure less the interior."""
    grid, lot = grid_of(form)
    return form_of_lot(grid, closed_lot(grid, lot) & ~inner_lot(grid, lot))


def regular(form):
    """The form of the closure of the interior."""
    return closed(inner(form))


def closed_lot(grid, lot):
    """The lot of the cells in the closure: of those in the stars of which there is some cell of the set."""
    found = 0
    for number, signs in enumerate(grid.cells):
        if grid.star(signs) & lot != 0:
            found |= 1 << number
    return found


def inner_lot(grid, lot):
    """The lot of the cells in the interior: of those the stars of which lie in the set."""
    return grid.whole ^ closed_lot(grid, grid.whole ^ lot)


def is_closed(form):
    """Whether the set is its own closure."""
    return closed(form) == form


def is_open(form):
    """Whether the set is its own interior."""
    return inner(form) == form


def is_within(form, other):
    """Whether each point of the first set belongs to the other one."""
    return less(form, other)[2] == ()


def are_apart(form, other):
    """Whether no point belongs to both sets."""
    return both(form, other)[2] == ()
