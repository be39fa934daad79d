"""Formulas without "some", "every" and "back" that hold at the same points."""

from onesolid.errors import TooGreat
from onesolid.formulas import MOST_WORDS, inner_parts, words_of
from onesolid.holding import looked_at, put_through, without_last
from onesolid.numbers import shortened


def plain(dimension, formula):
    """A formula of "is", "not", "and", "or" alone that holds at the same points."""
    word = formula[0]
    if word == "is":
        return formula
    if word == "back":
        return _drawn_back(dimension, formula[1], plain(len(formula[1]), formula[2]))
    if word in ("some", "every"):
        inside = plain(dimension + 1, formula[1])
        return ("or" if word == "some" else "and",) + _all_put_in(dimension, inside)
    made = (word,) + tuple([plain(dimension, part) for part in formula[1:]])
    if words_of(made) > MOST_WORDS:
        raise TooGreat(MOST_WORDS)
    return made


def is_plain(formula):
    """Whether a formula has no "some", "every" and "back"."""
    if formula[0] in ("some", "every", "back"):
        return False
    return all([is_plain(part) for part in inner_parts(formula)])


def _with_rows(formula, changed):
    """A plain formula with each of its rows changed by a function."""
    if formula[0] == "is":
        return ("is", formula[1], changed(formula[2]))
    return (formula[0],) + tuple([_with_rows(part, changed) for part in formula[1:]])


def _drawn_back(dimension, table, inside):
    return _with_rows(inside, lambda row: put_through(dimension, table, row))


def _all_put_in(dimension, inside):
    """A plain formula with each of its values put in for the last coordinate, equal ones once."""
    words = words_of(inside)
    made = []
    for value in _values(dimension, looked_at(dimension + 1, inside)):
        part = _put_in(inside, value)
        if part not in made:
            made.append(part)
            # Refused at once, as there may be thousands of values.
            if 1 + len(made) * words > MOST_WORDS:
                raise TooGreat(MOST_WORDS)
    return tuple(made)


def _put_in(inside, value):
    return _with_rows(inside, lambda row: _row_put_in(row, value))


def _row_put_in(row, value):
    """A row with a value (top, bottom) of its last coordinate, top a row of the others."""
    top, bottom = value
    pairs = zip(without_last(row), top)
    return shortened([bottom * number + row[-2] * part for number, part in pairs])


def _values(dimension, planes):
    """The values (top, bottom) of the last coordinate that are put in, in their sequence."""
    own = [_value_on(plane) for plane in planes if plane[-2] != 0]
    values = list(own)
    for place, one in enumerate(own):
        for other in own[place + 1:]:
            values.append(_middle(one, other))
    for top, bottom in own:
        values.append((top[:-1] + (top[-1] - bottom,), bottom))
    for top, bottom in own:
        values.append((top[:-1] + (top[-1] + bottom,), bottom))
    values.append(((0,) * (dimension + 1), 1))
    return values


def _value_on(plane):
    """The value of the last coordinate with which a plane is 0."""
    bottom = plane[-2]
    if bottom < 0:
        return without_last(plane), -bottom
    return tuple([-number for number in without_last(plane)]), bottom


def _middle(one, other):
    """Half of the sum of two values."""
    pairs = zip(one[0], other[0])
    top = tuple([number * other[1] + part * one[1] for number, part in pairs])
    return top, 2 * one[1] * other[1]
