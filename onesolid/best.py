"""The greatest value of a row on the set of a system, and papers that show it."""

from onesolid.closures import closure_of, has_point, is_at_points, point_or_weights, rays_on, sum_point
from onesolid.errors import NotPaper
from onesolid.numbers import compared, over_one_bottom
from onesolid.papers import is_direction, is_point, is_worded
from onesolid.points import direction_of
from onesolid.rows import check_row, slope, value_at, weighed
from onesolid.systems import check_system, first_failing, loosened
from onesolid.weights import are_barring, are_signed, are_weights, is_strict, shares, summed_up

PAPER_FORMS = (("none", 2), ("endless", 3), ("met", 3), ("near", 4))


def greatest(dimension, system, row):
    """How great the values of a row are on the set of a system: ("none",), ("most", value, is_met) or ("endless",)."""
    check_system(dimension, system)
    check_row(dimension, row)
    cone = closure_of(dimension, system)
    if cone is None:
        return ("none",)
    if _rising(cone, row) is not None:
        return ("endless",)
    best = _best_point(cone[1], row)
    value = value_at(row, best)
    return ("most", value, has_point(dimension, rays_on(cone[1], _less_value(row, value)), system))


def _rising(cone, row):
    """A vector along which the closure goes on and the row grows, None if there is none."""
    lines, rays = cone
    for line in lines:
        rise = weighed(row, line)
        if rise != 0:
            return line if rise > 0 else tuple([-number for number in line])
    for vector, zeros in rays:
        if not is_at_points(zeros) and weighed(row, vector) > 0:
            return vector
    return None


def _best_point(rays, row):
    """One of the points among the rays of a closure at which the row has the greatest value."""
    best = None
    for vector, zeros in rays:
        if is_at_points(zeros):
            if best is None or compared(value_at(row, vector), value_at(row, best)) > 0:
                best = vector
    return best


def _less_value(row, value):
    """A positive multiple of the row less a value."""
    top, bottom = value
    multiple = [number * bottom for number in row]
    return tuple(multiple[:-1]) + (multiple[-1] - top,)


def greatest_paper(dimension, system, row):
    """A paper on the greatest value of a row on the set of a system."""
    found = greatest(dimension, system, row)
    if found[0] == "none":
        return ("none", shares(point_or_weights(dimension, system)[1], 1))
    cone = closure_of(dimension, system)
    inside = sum_point(dimension, cone[1])
    if found[0] == "endless":
        return ("endless", inside, direction_of(_rising(cone, row)[:-1]))
    _, value, is_met = found
    if not is_met:
        return ("near", inside, _best_point(cone[1], row), _weights_up_to(dimension, system, row, value, "ge"))
    reached = sum_point(dimension, rays_on(cone[1], _less_value(row, value)))
    return ("met", reached, _weights_up_to(dimension, loosened(system), row, value, "gt"))


def _weights_up_to(dimension, pairs, row, value, word):
    """The weights with which the rows of some pairs add up to a value less a row that can't be greater.

    The word tells which values of the row the pairs do not allow: from this value on, or above it.
    """
    _, wholes = point_or_weights(dimension, pairs + ((word, _less_value(row, value)),))
    # The row stands there multiplied by the bottom of the value.
    return shares(wholes[:-1], wholes[-1] * value[1])


def check_greatest(dimension, system, row, paper):
    """What a paper shows of the greatest value of a row on the set of a system, told as greatest does."""
    check_system(dimension, system)
    check_row(dimension, row)
    if not _is_paper(dimension, len(system), paper):
        raise NotPaper("form")
    shown = _shown(dimension, system, row, paper)
    if shown is None:
        raise NotPaper(paper[0])
    return shown


def _is_paper(dimension, many, paper):
    if not is_worded(paper, PAPER_FORMS):
        return False
    if paper[0] == "none":
        return are_weights(paper[1], many)
    if not is_point(dimension, paper[1]):
        return False
    if paper[0] == "endless":
        return is_direction(dimension, paper[2])
    if paper[0] == "met":
        return are_weights(paper[2], many)
    return is_point(dimension, paper[2]) and are_weights(paper[3], many)


def _shown(dimension, system, row, paper):
    """What a paper shows, None if it does not hold."""
    if paper[0] == "none":
        is_barred = are_barring(dimension + 1, system, over_one_bottom(paper[1])[1])
        return ("none",) if is_barred else None
    if first_failing(system, paper[1]) is not None:
        return None
    if paper[0] == "endless":
        return ("endless",) if _leads_on(system, row, paper[2]) else None
    if paper[0] == "met":
        value = value_at(row, paper[1])
        return ("most", value, True) if _bound(system, row, value, paper[2]) else None
    value = value_at(row, paper[2])
    if first_failing(loosened(system), paper[2]) is not None or not _bound(system, row, value, paper[3]):
        return None
    return ("most", value, False) if is_strict(system, over_one_bottom(paper[3])[1]) else None


def _leads_on(system, row, direction):
    """Whether the set of a system that holds somewhere goes on along a direction along which the row grows."""
    for word, own in system:
        rise = slope(own, direction)
        if rise < 0 or (rise > 0 and word == "eq"):
            return False
    return slope(row, direction) > 0


def _bound(system, row, value, weights):
    """Whether weights are not negative but for "eq" pairs, and the rows add up by them to a value less the row."""
    bottom, wholes = over_one_bottom(weights)
    total = summed_up(len(row), [own for _, own in system], wholes)
    wanted = [-bottom * number for number in _less_value(row, value)]
    return are_signed(system, wholes) and [value[1] * number for number in total] == wanted
