"""Weights of pairs: fractions by which their rows are multiplied and then added up."""

from onesolid.errors import NotNumber
from onesolid.numbers import check_fraction, common_multiple, lowest, over_one_bottom, shortened


def is_fraction(value):
    """Whether any value is a fraction."""
    try:
        check_fraction(value)
    except NotNumber:
        return False
    return True


def are_weights(value, many):
    """Whether any value is a tuple of so many fractions."""
    return isinstance(value, tuple) and len(value) == many and all([is_fraction(weight) for weight in value])


def shares(wholes, bottom):
    """The fractions that some integers are of a bottom."""
    return tuple([lowest(whole, bottom) for whole in wholes])


def summed_up(size, rows, wholes):
    """The sum of some rows of so many numbers, each multiplied by its integer."""
    total = [0] * size
    for row, whole in zip(rows, wholes):
        total = [number + whole * part for number, part in zip(total, row)]
    return tuple(total)


def point_by_weights(points, weights):
    """The point that is the sum of some, each multiplied by its weight; the weights add up to 1."""
    bottom, wholes = over_one_bottom(weights)
    scale = common_multiple([own[-1] for own in points])
    multiples = [whole * (scale // own[-1]) for whole, own in zip(wholes, points)]
    total = summed_up(len(points[0]), points, multiples)
    return shortened(total[:-1] + (scale * bottom,))


def are_signed(pairs, wholes):
    """Whether weights are negative at most at "eq" pairs."""
    return all([whole >= 0 or word == "eq" for (word, _), whole in zip(pairs, wholes)])


def is_strict(pairs, wholes):
    """Whether some "gt" pair has a positive weight."""
    return any([whole > 0 and word == "gt" for (word, _), whole in zip(pairs, wholes)])


def are_barring(size, pairs, wholes):
    """Whether integers, the weights of some pairs with rows of so many numbers, are a bar of these."""
    total = summed_up(size, [row for _, row in pairs], wholes)
    if not are_signed(pairs, wholes) or any([number != 0 for number in total[:-1]]):
        return False
    return total[-1] < 0 or (total[-1] == 0 and is_strict(pairs, wholes))
