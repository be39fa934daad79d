"""Kernels: those points of a set from which all of it is seen within it."""

from onesolid.canon import form_of_lot, is_inside
from onesolid.cells import point_in
from onesolid.errors import NotPaper
from onesolid.faces import toward
from onesolid.grids import grid_of, zero_places
from onesolid.papers import is_point, is_worded
from onesolid.points import check_point, direction_to
from onesolid.rows import signs_at
from onesolid.segments import just_behind, opposite_to

PAPER_FORMS = (("out", 1), ("barred", 3))


def kernel(form):
    """The form of the kernel of a set."""
    grid, lot = grid_of(form)
    return form_of_lot(grid, _kernel_lot(grid, lot))


def star_cells(form):
    """The signs of the cells of a form's planes that lie in the kernel, ascending."""
    grid, lot = grid_of(form)
    return tuple(grid.cells_in(_kernel_lot(grid, lot)))


def _kernel_lot(grid, lot):
    """The lot of the cells from the points of which all of the set is seen within it."""
    barred = {}
    for number in range(len(grid.cells)):
        for pairs in _bars(grid, lot, number):
            barred[pairs] = True
    found = lot
    for pairs in list(barred):
        found &= ~_lot_at(grid, pairs)
    return found


def _lot_at(grid, pairs):
    """The lot of the cells that have, at some places, some signs."""
    lot = grid.whole
    for place, sign in pairs:
        lot &= grid.side(place, sign)
    return lot


def _bars(grid, lot, number):
    """Pairs (place, sign) of the planes through a cell, such that cells with these signs do not see all by its points.

    A segment to a point of the cell ends in a cell of its star, and goes on behind it in the opposite one. If the cell
    belongs to the set, that end must, too; if it does not, nothing behind it may.
    """
    signs = grid.cells[number]
    star = grid.star(signs)
    places = zero_places(signs)
    if (lot >> number) & 1 == 1:
        return [tuple([(place, cell[place]) for place in places]) for cell in grid.cells_in(star & ~lot)]
    return [tuple([(place, -cell[place]) for place in places]) for cell in grid.cells_in(star & lot)]


def not_star(form, point):
    """None for a point of the kernel; otherwise ("out",), or ("barred", point of the set, point between)."""
    check_point(form[0], point)
    dimension, planes, cells = form
    own = signs_at(planes, point)
    if own not in cells:
        return ("out",)
    grid, lot = grid_of(form)
    for number, signs in enumerate(grid.cells):
        is_in = (lot >> number) & 1 == 1
        behind = toward(signs, own if is_in else tuple([-sign for sign in own]))
        if ((lot >> grid.numbers[behind]) & 1 == 1) != is_in:
            return ("barred",) + _barred(planes, point, point_in(dimension, planes, signs), is_in)
    return None


def _barred(planes, point, target, is_in):
    """A point of a set and one between it and a point that is not, near a point of the cell that bars the way."""
    if is_in:
        return (target, just_behind(planes, target, point))
    return (just_behind(planes, target, opposite_to(target, point)), target)


def check_star(form, point, paper):
    """True for any value that tells rightly whether a point belongs to the kernel, as not_star does."""
    check_point(form[0], point)
    if paper is None:
        if not_star(form, point) is not None:
            raise NotPaper("kernel")
        return True
    if not is_worded(paper, PAPER_FORMS) or not all([is_point(form[0], thing) for thing in paper[1:]]):
        raise NotPaper("form")
    if paper[0] == "out":
        if is_inside(form, point):
            raise NotPaper("out")
    elif not _is_barred(form, point, paper[1], paper[2]):
        raise NotPaper("barred")
    return True


def _is_barred(form, point, target, between):
    """Whether a point and its target belong to a set, and one strictly between them does not."""
    if between in (point, target) or direction_to(point, between) != direction_to(between, target):
        return False
    return is_inside(form, point) and is_inside(form, target) and not is_inside(form, between)
