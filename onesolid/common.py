"""Common points of the hulls of several sets, or the fewest of these that have none."""

from itertools import combinations

from onesolid.errors import Unlike
from onesolid.laddering import parted_or_common
from onesolid.spreads import spread_of_form

MOST_FORMS = 8


def common_point(forms):
    """("point", point) with a point of the hulls of all sets, or ("few", numbers) of the fewest that have none."""
    if not 1 <= len(forms) <= MOST_FORMS or any([form[0] != forms[0][0] for form in forms]):
        raise Unlike()
    dimension = forms[0][0]
    spreads = [spread_of_form(form) for form in forms]
    point = parted_or_common(dimension, spreads)[0]
    if point is not None:
        return ("point", point)
    return ("few", _fewest_apart(dimension, spreads))


def _fewest_apart(dimension, spreads):
    """The numbers of the fewest sets the hulls of which have no common point, given that all of them have none."""
    for many in range(1, len(spreads)):
        for numbers in combinations(range(len(spreads)), many):
            if parted_or_common(dimension, [spreads[number] for number in numbers])[0] is None:
                return numbers
    return tuple(range(len(spreads)))
