"""The greatest values of rows on sets, and the boxes around these."""

from onesolid.errors import Empty, Endless
from onesolid.rows import check_row, coordinate_row
from onesolid.spreads import spread_of_form


def greatest_of(form, row):
    """The least number that no value of a row on the set exceeds, a fraction, and whether it is one of them."""
    check_row(form[0], row)
    if not form[2]:
        raise Empty()
    found = _greatest(spread_of_form(form), row)
    if found is None:
        raise Endless()
    return found


def _greatest(spread, row):
    """The least number that no value exceeds and whether it is one, None if there is no such number."""
    found = _least(spread, tuple([-number for number in row]))
    return None if found is None else _opposite(found)


def _least(spread, row):
    """The greatest number that no value is below and whether it is one, None if there is no such number."""
    value = spread.least_value(row)
    return None if value is None else (value, spread.at_value(row, value) != 0)


def _opposite(found):
    (top, bottom), is_reached = found
    return ((-top, bottom), is_reached)


def box_of(form):
    """For each coordinate the greatest number that it is not below and the least that it does not exceed."""
    dimension = form[0]
    if not form[2]:
        raise Empty()
    spread = spread_of_form(form)
    pairs = []
    for place in range(dimension):
        row = coordinate_row(dimension, place)
        pairs.append((_least(spread, row), _greatest(spread, row)))
    return tuple(pairs)
