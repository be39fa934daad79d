"""Convex hulls of sets, whether a set is its own hull, and papers on whether a point belongs to a hull."""

from onesolid.blends import Blend
from onesolid.canon import form_of_lot, is_inside, lot_with
from onesolid.cells import MOST_PLANES
from onesolid.closures import shares_or_row
from onesolid.errors import NotPaper
from onesolid.flats import flat_of, in_sequence
from onesolid.grids import Grid, grid_of, zero_places
from onesolid.laddering import is_ladder_on, ladder_of_steps, parted_or_common, spread_of_point
from onesolid.needed import cut_at_most
from onesolid.numbers import over_one_bottom
from onesolid.papers import is_point, is_worded
from onesolid.points import between, check_point, moved_by
from onesolid.segments import just_behind, opposite_to
from onesolid.spreads import inner_points, spread_of, spread_of_form
from onesolid.weights import are_weights, point_by_weights

PAPER_FORMS = (("in", 3), ("out", 2))


def hull_of(form):
    """The form of the hull of a set."""
    dimension = form[0]
    planes = cut_at_most(dimension, hull_flats(form), MOST_PLANES[dimension])
    grid = Grid(dimension, planes)
    spread = spread_of_form(form)
    if spread.lot == 0:
        return form
    blend = Blend(dimension, [spread])
    return form_of_lot(grid, lot_with(grid, lambda point: blend.has(point)))


def hull_flats(form):
    """The hull flats of a set, in sequence."""
    spread = spread_of_form(form)
    known = {}
    if spread.lot != 0:
        _find_flats(Blend(form[0], [spread]), known)
    found = [flat for flats in list(known.values()) for flat in flats if flat != ()]
    return in_sequence(found)


def _find_flats(blend, known):
    """Puts to what is known, by their lots, the flats of the hull of a lot and of those of its parts on walls."""
    lot = blend.spreads[0].lot
    if lot in known:
        return
    walls = [flat_of(blend.dimension, blend.flat + (wall,)) for wall in blend.walls]
    known[lot] = [blend.flat] + walls
    for number in range(len(walls)):
        part = blend.part_on(number)
        if part is not None:
            _find_flats(part, known)


def is_convex(form):
    """Whether a set is its own hull."""
    return not_convex(form) is None


def not_convex(form):
    """Two points of the set and one between them that does not belong to it, None of a convex set."""
    grid, lot = grid_of(form)
    found = _bent_cells(grid, lot)
    if found is None:
        return None
    number, end = found
    points = inner_points(grid, (1 << number) | (1 << end))
    point, other = points[number], points[end]
    if (lot >> number) & 1 == 1:
        return (point, other, just_behind(grid.planes, point, other))
    return (just_behind(grid.planes, point, opposite_to(point, other)), other, point)


def _bent_cells(grid, lot):
    """The numbers of two cells, the second one of the set, such that the segments between them are not in the set.

    If the first one belongs to the set, the way to the second one leaves the set at once; otherwise the set is also
    directly behind the first one, as seen from the second one. None if there are no such cells: along a segment that
    begins and ends in the set, but leaves it, there is a place of one or of the other kind.
    """
    for number, signs in enumerate(grid.cells):
        star = grid.star(signs)
        is_in = (lot >> number) & 1 == 1
        around, turn = (star & ~lot, 1) if is_in else (star & lot, -1)
        if around != 0:
            ends = _cells_toward(grid, lot, zero_places(signs), turn, around)
            if ends != 0:
                return number, ends.bit_length() - 1
    return None


def _cells_toward(grid, lot, places, turn, around):
    """The lot of those cells of a lot that lie, from a cell, toward one of some cells around it, or opposite to it."""
    for signs in grid.cells_in(around):
        ends = lot
        for place in places:
            ends &= grid.side(place, turn * signs[place])
        if ends != 0:
            return ends
    return 0


def in_hull(form, point):
    """A paper on whether a point belongs to the hull: ("in", points, weights) or ("out", ladder)."""
    dimension = form[0]
    check_point(dimension, point)
    grid, lot = grid_of(form)
    spreads = [spread_of_point(point), spread_of(grid, lot)]
    found, steps, last = parted_or_common(dimension, spreads)
    if found is None:
        return ("out", ladder_of_steps(steps))
    points, weights = _summed_to(grid, last[1], point)
    return ("in", points, weights)


def _summed_to(grid, spread, point):
    """Points of a set and weights by which they add up to a point of the inner part of the hull of the set."""
    inner = inner_points(grid, spread.lot)
    scale = 1
    while True:
        # The nearer they are to the corners and the ends of rays, the more their hull fills the inner part.
        points = _points_of_set(grid, spread, inner, scale)
        shares, _ = shares_or_row(grid.dimension, points, [], point)
        if shares is not None:
            pairs = [(own, weight) for own, weight in zip(points, shares[0]) if weight[0] > 0]
            return tuple([own for own, _ in pairs]), tuple([weight for _, weight in pairs])
        scale *= 4


def _points_of_set(grid, spread, inner, scale):
    """Points of a set near its corners and far along its rays and lines, the more so the greater the scale is."""
    found = {}
    for vector, used in spread.points:
        found[between(vector, inner[_flattest(grid, used & spread.lot)], (1, scale))] = True
    for vector, used in spread.rays:
        found[moved_by(inner[_flattest(grid, used & spread.lot)], vector[:-1], (scale, 1))] = True
    for vector in spread.lines:
        for amount in (scale, -scale):
            found[moved_by(inner[_flattest(grid, spread.lot)], vector[:-1], (amount, 1))] = True
    return list(found)


def _flattest(grid, lot):
    """The number of the first of those cells of a lot that lie in the most planes."""
    cells = grid.cells_in(lot)
    most = max([signs.count(0) for signs in cells])
    return grid.numbers[[signs for signs in cells if signs.count(0) == most][0]]


def check_hull(form, point, paper):
    """Whether a paper shows that a point belongs to the hull, True, or that it does not, False."""
    check_point(form[0], point)
    if not is_worded(paper, PAPER_FORMS):
        raise NotPaper("form")
    if paper[0] == "out":
        if not is_ladder_on(form[0], spread_of_point(point), spread_of_form(form), paper[1]):
            raise NotPaper("out")
        return False
    if not _adds_up(form, point, paper[1], paper[2]):
        raise NotPaper("in")
    return True


def _adds_up(form, point, points, weights):
    """Whether any values are points of the set and weights by which they add up to a point."""
    dimension = form[0]
    if not isinstance(points, tuple) or not 1 <= len(points) <= dimension + 1:
        return False
    if not all([is_point(dimension, own) and is_inside(form, own) for own in points]):
        return False
    if not are_weights(weights, len(points)) or any([top <= 0 for top, _ in weights]):
        return False
    bottom, wholes = over_one_bottom(weights)
    return sum(wholes) == bottom and point_by_weights(points, weights) == point
