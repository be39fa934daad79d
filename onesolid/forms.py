"""Forms: triples (dimension, planes, cells), just one for each set."""

from onesolid.canon import form_by_rows, form_of_lot, is_inside, look_at_planes, lot_with
from onesolid.cells import MOST_PLANES, cell_dimensions, check_planes, point_in
from onesolid.deeds import all_of, any_of, rest
from onesolid.errors import Empty, NotForm, NotRow, TooGreat
from onesolid.formulas import GREATEST_DIMENSION, check_formula, inner_dimension, inner_parts
from onesolid.grids import Grid
from onesolid.holding import holds_there, is_as_word, put_through, study
from onesolid.images import full_shadow, shadow
from onesolid.numbers import is_whole
from onesolid.points import check_point
from onesolid.rows import check_plane, plane_of, signs_at, weighed

SIGN_WORDS = {-1: "lt", 0: "eq", 1: "gt"}


def form_of(dimension, formula):
    """The form of the set that any value, if it is a formula of the dimension, tells."""
    return form_told(dimension, check_formula(dimension, formula))


def form_told(dimension, formula):
    """The form of the set of a formula, the numbers of which may have any size."""
    word = formula[0]
    if word == "is":
        return _form_of_row(dimension, formula[1], formula[2])
    space = inner_dimension(dimension, formula)
    if space == GREATEST_DIMENSION:
        return _form_by_points(dimension, formula)
    parts = tuple([form_told(space, part) for part in inner_parts(formula)])
    if word == "not":
        return rest(parts[0])
    if word == "and":
        return all_of(dimension, parts)
    if word == "or":
        return any_of(dimension, parts)
    if word == "some":
        return shadow(parts[0])
    if word == "every":
        return full_shadow(parts[0])
    rows = [put_through(dimension, formula[1], plane) for plane in parts[0][1]]
    return form_by_rows(dimension, rows, parts[0])


def _form_of_row(dimension, word, row):
    """The form of the points at which a row is as the word of an "is" wants."""
    plane = plane_of(row)
    grid = Grid(dimension, () if plane is None else (plane,))
    lot = lot_with(grid, lambda point: is_as_word(word, weighed(row, point)))
    return form_of_lot(grid, lot)


def _form_by_points(dimension, formula):
    """The form of a formula with a part of dimension 4, which has no form."""
    planes, studied = study(dimension, formula)
    grid = look_at_planes(dimension, planes)
    return form_of_lot(grid, lot_with(grid, lambda point: holds_there(studied, point)))


def form_from(dimension, planes, cells):
    """The form of the union of some cells of planes; planes and cells are any values."""
    check_planes(dimension, planes)
    grid = Grid(dimension, planes)
    if not are_cells(grid, cells) or len(set(cells)) < len(cells):
        raise NotForm("cells")
    return form_of_lot(grid, grid.lot_of(cells))


def are_cells(grid, value):
    """Whether any value is a tuple of signs of cells."""
    return isinstance(value, tuple) and all([_is_cell_of(grid, signs) for signs in value])


def _is_cell_of(grid, value):
    if not isinstance(value, tuple) or not all([is_whole(sign) for sign in value]):
        return False
    return value in grid.numbers


def need_form(value):
    """The value, if it is a form."""
    if not _is_triple(value):
        raise NotForm("form")
    dimension, planes, cells = value
    if not _are_ascending_planes(dimension, planes):
        raise NotForm("planes")
    grid = Grid(dimension, planes)
    if not are_cells(grid, cells) or not is_ascending(cells):
        raise NotForm("cells")
    if not _is_form_of(grid, value):
        raise NotForm("needed")
    return value


def _is_triple(value):
    if not isinstance(value, tuple) or len(value) != 3:
        return False
    dimension, planes, cells = value
    if not is_whole(dimension) or dimension not in MOST_PLANES:
        return False
    return isinstance(planes, tuple) and isinstance(cells, tuple)


def _are_ascending_planes(dimension, planes):
    if len(planes) > MOST_PLANES[dimension]:
        return False
    for plane in planes:
        try:
            check_plane(dimension, plane)
        except NotRow:
            return False
    return is_ascending(planes)


def is_ascending(things):
    """Whether some things are greater and greater, as Python compares."""
    return all([one < other for one, other in zip(things, things[1:])])


def _is_form_of(grid, value):
    """Whether a value is the form of the union of its cells."""
    try:
        return form_of_lot(grid, grid.lot_of(value[2])) == value
    except TooGreat:
        return False


def formula_of(form):
    """A formula of the set: of each of its cells the signs at the planes."""
    _, planes, cells = form
    return ("or",) + tuple([_formula_of_cell(planes, signs) for signs in cells])


def _formula_of_cell(planes, signs):
    return ("and",) + tuple([("is", SIGN_WORDS[sign], plane) for plane, sign in zip(planes, signs)])


def has_point(form, point):
    """Whether a point belongs to the set."""
    return is_inside(form, check_point(form[0], point))


def cell_at(form, point):
    """The signs of the cell of a point."""
    return signs_at(form[1], check_point(form[0], point))


def is_empty(form):
    """Whether no point belongs to the set."""
    return form[2] == ()


def is_all(form):
    """Whether all points belong to the set."""
    return form[2] == ((),)


def dimension_of(form):
    """The greatest dimension of a cell of the set, -1 if there is none."""
    return max(cell_dimensions(form[0], form[1], form[2]), default=-1)


def a_point(form):
    """A point of the set."""
    dimension, planes, cells = form
    if not cells:
        raise Empty()
    return point_in(dimension, planes, cells[0])
