"""Lines, corners and rays of bodies, and bodies told by them."""

from onesolid.bodies import check_body, closure_of_body
from onesolid.closures import is_at_points, rows_around, shares_or_row
from onesolid.errors import NotPaper, TooGreat
from onesolid.flats import cleared_by_all, flat_of
from onesolid.numbers import common_multiple, over_one_bottom, shortened, wrong_place
from onesolid.papers import is_worded
from onesolid.points import check_direction, check_point
from onesolid.rows import slope, weighed
from onesolid.weights import are_weights, summed_up

MOST_TOLD = 24
PAPER_FORMS = (("in", 3), ("out", 2))


def corners(dimension, body):
    """The lines, corners and rays of a body, None of None."""
    check_body(dimension, body)
    if body is None:
        return None
    lines, rays = closure_of_body(dimension, body)
    # The last number of a line is 0, as that of a row that is 0 at the origin.
    reduced = flat_of(dimension, lines)
    points = []
    directions = []
    for vector, zeros in rays:
        own = shortened(cleared_by_all(vector, reduced))
        if is_at_points(zeros):
            points.append(own)
        else:
            directions.append(own[:-1])
    return (tuple([row[:-1] for row in reduced]), tuple(sorted(points)), tuple(sorted(directions)))


def _check_directions(dimension, directions):
    for direction in directions:
        check_direction(dimension, direction)


def _check_points(dimension, points):
    for point in points:
        check_point(dimension, point)


def _check_many(tuples):
    if max([len(things) for things in tuples]) > MOST_TOLD:
        raise TooGreat(MOST_TOLD)


def _vectors(directions):
    """Directions as vectors of the space with one number more."""
    return [direction + (0,) for direction in directions]


def body_from(dimension, lines, points, rays):
    """The body of all sums of points, their weights adding up to 1, multiples of rays from 0, multiples of lines."""
    _check_directions(dimension, lines)
    _check_points(dimension, points)
    _check_directions(dimension, rays)
    _check_many((lines, points, rays))
    if not points:
        return None
    return rows_around(dimension, points, _vectors(rays), _vectors(lines)) + ((),)


def corner_paper(dimension, points, rays, point):
    """A paper on whether a point is a sum of points, their weights adding up to 1, and multiples of rays from 0."""
    _check_told(dimension, points, rays, point)
    shares, row = shares_or_row(dimension, points, _vectors(rays), point)
    if shares is None:
        return ("out", row)
    return ("in",) + shares


def _check_told(dimension, points, rays, point):
    _check_points(dimension, points)
    _check_directions(dimension, rays)
    check_point(dimension, point)
    _check_many((points, rays))


def check_corners(dimension, points, rays, point, paper):
    """The word of a paper on such a sum, if it shows what it claims."""
    _check_told(dimension, points, rays, point)
    if not _is_paper(dimension, len(points), len(rays), paper):
        raise NotPaper("form")
    if paper[0] == "in":
        is_right = _adds_up(dimension, points, rays, point, paper)
    else:
        is_right = _keeps_out(points, rays, point, paper[1])
    if not is_right:
        raise NotPaper(paper[0])
    return paper[0]


def _is_paper(dimension, many_points, many_rays, paper):
    if not is_worded(paper, PAPER_FORMS):
        return False
    if paper[0] == "out":
        return wrong_place(paper[1], dimension + 1) is None
    return are_weights(paper[1], many_points) and are_weights(paper[2], many_rays)


def _adds_up(dimension, points, rays, point, paper):
    """Whether the weights and numbers of a paper are as told and lead to the point."""
    bottom, wholes = over_one_bottom(paper[1] + paper[2])
    used = [whole for whole in wholes if whole != 0]
    if len(used) > dimension + 1 or any([whole < 0 for whole in used]):
        return False
    # All points are brought to one last number.
    scale = common_multiple([own[-1] for own in points])
    factors = [scale // own[-1] for own in points] + [scale] * len(rays)
    multiples = [whole * factor for whole, factor in zip(wholes, factors)]
    total = summed_up(dimension + 1, list(points) + _vectors(rays), multiples)
    return [number * point[-1] for number in total] == [number * scale * bottom for number in point]


def _keeps_out(points, rays, point, row):
    """Whether a row is nowhere negative where points and rays lead, but at the point."""
    if any([weighed(row, own) < 0 for own in points]) or any([slope(row, ray) < 0 for ray in rays]):
        return False
    return weighed(row, point) < 0
