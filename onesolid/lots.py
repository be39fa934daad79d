"""Pairs that hold together nowhere: least lots of them, and the weights that show it."""

from onesolid.cones import cone_cut, cone_of, holds_inside, shared_zeros, sum_of_rays, whole_cone
from onesolid.flats import flat_directions, flat_of


def vector_or_weights(size, pairs):
    """A vector at which all pairs hold, and None; otherwise None, and weights that show that there is none.

    The weights are integers, negative at most at "eq" pairs, with which the rows add up to noughts, while some "gt"
    pair has a positive weight. The first pair, which holds somewhere, counts as given: the others with a weight
    are such that without any one of them those that remain hold somewhere together with the first one.
    """
    cone = cone_of(size, pairs)
    if holds_inside(cone, pairs):
        return sum_of_rays(size, cone[1]), None
    lot = _least_lot(size, pairs)
    weights = [0] * len(pairs)
    for number, weight in zip(lot, _weights_of_lot([pairs[number] for number in lot])):
        weights[number] = weight
    return None, weights


def _least_lot(size, pairs):
    """The numbers of the first pair and of those others, as few as possible, with which it holds nowhere."""
    lot = [0]
    others = list(range(1, len(pairs)))
    while True:
        order = lot + others
        last = _first_empty(size, [pairs[number] for number in order])
        if last < len(lot):
            return lot
        # The pairs ahead of the last one hold somewhere, so it can't be spared; those behind it can.
        others = order[len(lot):last]
        lot = lot + [order[last]]


def _first_empty(size, pairs):
    """The number of the first pair that holds nowhere together with those ahead of it."""
    cone = whole_cone(size)
    strict = 0
    for number, pair in enumerate(pairs):
        cone = cone_cut(cone, number, pair)
        if pair[0] == "gt":
            strict |= 1 << number
        if shared_zeros(cone[1]) & strict != 0:
            return number
    return None


def _weights_of_lot(pairs):
    """The weights, just one tuple but for multiples, with which the rows of a least lot add up to noughts."""
    rows = [row for _, row in pairs]
    sums = [column + (0,) for column in zip(*rows)]
    weights = flat_directions(len(rows), flat_of(len(rows), sums))[0]
    for (word, _), weight in zip(pairs, weights):
        if word != "eq" and weight < 0:
            return tuple([-number for number in weights])
    return weights
