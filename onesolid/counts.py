"""How many cells there are, by the weights of meets alone."""

from onesolid.flats import flat_dimension
from onesolid.meets import bits_of_meets, meets_of, weights_from


def cells_on(dimension, planes, flat):
    """How many cells have a flat as their flat."""
    meets = meets_of(dimension, planes)
    if flat not in meets:
        return 0
    return _cells_on(dimension, bits_of_meets(planes, meets), flat)


def _cells_on(dimension, pairs, flat):
    own = flat_dimension(dimension, flat)
    weights = weights_from(pairs, flat)
    return sum([_signed(own - flat_dimension(dimension, meet), weight) for meet, weight in weights])


def _bounded_on(dimension, pairs, flat):
    """How many of the cells with a meet as their flat are bounded, if some meet is a point."""
    return _signed(flat_dimension(dimension, flat), sum([weight for _, weight in weights_from(pairs, flat)]))


def _signed(steps, number):
    """The number, with the opposite sign if the steps are odd."""
    return number if steps & 1 == 0 else -number


def cell_counts(dimension, planes):
    """How many cells of dimension 0, 1 and so on there are."""
    pairs = bits_of_meets(planes, meets_of(dimension, planes))
    return _counted(dimension, [(meet, _cells_on(dimension, pairs, meet)) for meet, _ in pairs])


def bounded_counts(dimension, planes):
    """How many bounded cells of dimension 0, 1 and so on there are."""
    meets = meets_of(dimension, planes)
    if all([flat_dimension(dimension, meet) > 0 for meet in meets]):
        return (0,) * (dimension + 1)
    pairs = bits_of_meets(planes, meets)
    return _counted(dimension, [(meet, _bounded_on(dimension, pairs, meet)) for meet in meets])


def _counted(dimension, pairs):
    """The sums of the numbers of pairs (meet, number), by the dimensions of the meets."""
    counts = [0] * (dimension + 1)
    for meet, number in pairs:
        counts[flat_dimension(dimension, meet)] += number
    return tuple(counts)
