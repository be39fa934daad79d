"""What keeps convex hulls of sets apart: rows, step by step, the ladders that they make, and common points."""

from onesolid.closures import point_or_weights, rows_around
from onesolid.numbers import NOUGHT, common_divisor, shortened, wrong_place
from onesolid.rows import first_place
from onesolid.spreads import Spread
from onesolid.weights import summed_up


def spread_of_point(point):
    """The spread of a set of one point."""
    return Spread(1, [(point, 1)], [], [])


def parted_or_common(dimension, spreads):
    """How the hulls of some sets are kept apart: a common point or None, the rows of each step, the last spreads.

    The rows of a step, one for each of the sets, are not negative on what is left of it, and add up to the same number
    everywhere, 0 or less. If it is less, no point is common; otherwise common points are where all rows are 0, and what
    is left of the sets is what of them lies there. Of a common point, the last spreads are those of sets the inner
    parts of the hulls of which hold it.
    """
    steps = []
    while all([spread.lot != 0 for spread in spreads]):
        point, rows = _point_or_rows(dimension, spreads)
        if rows is None:
            return point, steps, spreads
        steps.append(rows)
        if sum([row[-1] for row in rows]) < 0:
            return None, steps, spreads
        spreads = [spread.part(spread.at_value(row, NOUGHT)) for spread, row in zip(spreads, rows)]
    return None, steps, spreads


def _point_or_rows(dimension, spreads):
    """A point of the inner parts of all hulls, and None; otherwise None and rows that keep these apart."""
    lots = [_inner_pairs(dimension, spread) for spread in spreads]
    point, weights = point_or_weights(dimension, [pair for pairs in lots for pair in pairs])
    if weights is None:
        return point, None
    rows = []
    used = 0
    for pairs in lots:
        own = weights[used:used + len(pairs)]
        rows.append(summed_up(dimension + 1, [row for _, row in pairs], own))
        used += len(pairs)
    return None, rows


def _inner_pairs(dimension, spread):
    """The pairs that hold in the inner part of the hull of a set."""
    points = [vector for vector, _ in spread.points]
    flat, walls = rows_around(dimension, points, [vector for vector, _ in spread.rays], spread.lines)
    return [("eq", row) for row in flat] + [("gt", row) for row in walls]


def ladder_of_steps(steps):
    """The ladder on two sets without a common point of their hulls, from the steps that keep these apart."""
    ladder = []
    for row, other in steps:
        # What both rows add up to lies, halved, between the values of the row on both sets.
        total = row[-1] + other[-1]
        ladder.append(shortened([2 * number for number in row[:-1]] + [2 * row[-1] - total]))
    return tuple(ladder)


def is_ladder_on(dimension, spread, other, value):
    """Whether any value is a ladder on two sets."""
    if not isinstance(value, tuple) or len(value) > dimension:
        return False
    if not all([_is_step(dimension, row) for row in value]):
        return False
    for row in value:
        turned = tuple([-number for number in row])
        if _is_below(spread, row) or _is_below(other, turned):
            return False
        spread = spread.part(spread.at_value(row, NOUGHT))
        other = other.part(other.at_value(turned, NOUGHT))
    return spread.lot == 0 or other.lot == 0


def _is_step(dimension, value):
    """Whether any value is a row with coefficients that are not all 0 and with the greatest common divisor 1."""
    if wrong_place(value, dimension + 1) is not None:
        return False
    return first_place(value[:-1]) is not None and common_divisor(value) == 1


def _is_below(spread, row):
    """Whether a row is negative at some point of a set."""
    if spread.lot == 0:
        return False
    least = spread.least_value(row)
    return least is None or least[0] < 0
