"""Bars: weights of the pairs of a system that show that it holds nowhere."""

from onesolid.closures import point_or_weights
from onesolid.errors import NotPaper
from onesolid.flats import cleared_by_all
from onesolid.numbers import over_one_bottom
from onesolid.papers import is_point, is_worded
from onesolid.rows import first_place
from onesolid.systems import check_system, first_failing
from onesolid.weights import are_barring, are_weights, shares

BETWEEN_FORMS = (("common", 2), ("between", 3))


def point_or_bar(dimension, system):
    """("point", point) with a point at which the system holds, or ("bar", weights) with a bar of it."""
    check_system(dimension, system)
    return _point_or_bar(dimension, system)


def _point_or_bar(dimension, pairs):
    point, wholes = point_or_weights(dimension, pairs)
    if wholes is None:
        return ("point", point)
    return ("bar", shares(wholes, 1))


def is_bar(dimension, system, weights):
    """Whether any value is a bar of a system."""
    check_system(dimension, system)
    return are_weights(weights, len(system)) and _bars(dimension, system, weights)


def _bars(dimension, pairs, weights):
    """Whether as many fractions as pairs are a bar of these."""
    _, wholes = over_one_bottom(weights)
    return are_barring(dimension + 1, pairs, wholes)


def few_bar(dimension, system):
    """A bar of a system with at most dimension + 1 weights other than 0, None if there is none."""
    word, found = point_or_bar(dimension, system)
    return found if word == "bar" else None


def least_barred(dimension, system):
    """The tuples of the numbers of pairs that hold together at no point, but do so without any one of them."""
    check_system(dimension, system)
    return tuple(sorted(_barred_from(dimension, system, (), ())))


def _barred_from(dimension, system, lot, reduced):
    """The least barred lots that begin with a lot of pairs whose coefficients are independent.

    The coefficients of a least barred lot are dependent in just one way, in which all of them take part: of two ways
    one could be taken to make a weight of its bar 0. So they are independent without the last one.
    """
    found = []
    for number in range(lot[-1] + 1 if lot else 0, len(system)):
        longer = lot + (number,)
        left, weights = _made_up(dimension, system[number][1], reduced)
        if first_place(left) is not None:
            found.extend(_barred_from(dimension, system, longer, reduced + (left + weights + (0,),)))
        elif _bar_one_another([system[place] for place in longer], weights):
            found.append(longer)
    return found


def _made_up(dimension, row, reduced):
    """The coefficients of a row, made 0 at the leading places of reduced ones, and the weights that make them up.

    The weights, at most dimension + 1, are those of the rows of a lot and of this one; behind the coefficients of
    each reduced row of the lot stand its own weights and a nought.
    """
    own = (0,) * len(reduced) + (1,) + (0,) * (dimension + 1 - len(reduced))
    left = cleared_by_all(row[:-1] + own, reduced)
    return left[:dimension], left[dimension:-1]


def _bar_one_another(pairs, weights):
    """Whether weights with which the coefficients of pairs add up to 0, or their opposites, are a bar with them all."""
    used = weights[:len(pairs)]
    if 0 in used:
        return False
    size = len(pairs[0][1])
    return are_barring(size, pairs, used) or are_barring(size, pairs, [-weight for weight in used])


def common_or_between(dimension, system, other):
    """("common", point) with a point of both sets, or ("between", first, second): weights that are a bar of both."""
    check_system(dimension, system)
    check_system(dimension, other)
    word, found = _point_or_bar(dimension, system + other)
    if word == "point":
        return ("common", found)
    return ("between", found[:len(system)], found[len(system):])


def check_between(dimension, system, other, paper):
    """The word of a paper on a common point of two systems, if it shows what it claims."""
    check_system(dimension, system)
    check_system(dimension, other)
    if not _is_between_form(dimension, (len(system), len(other)), paper):
        raise NotPaper("form")
    if paper[0] == "common":
        is_right = first_failing(system + other, paper[1]) is None
    else:
        is_right = _bars(dimension, system + other, paper[1] + paper[2])
    if not is_right:
        raise NotPaper(paper[0])
    return paper[0]


def _is_between_form(dimension, lengths, paper):
    if not is_worded(paper, BETWEEN_FORMS):
        return False
    if paper[0] == "common":
        return is_point(dimension, paper[1])
    return are_weights(paper[1], lengths[0]) and are_weights(paper[2], lengths[1])
