"""Whether any value has the form of a paper, and of what stands in papers."""

from onesolid.errors import NotPoint, NotRow
from onesolid.points import check_direction, check_point


def is_worded(value, forms):
    """Whether any value is a tuple of a word and more, as one of some pairs (word, length) tells."""
    if not isinstance(value, tuple) or len(value) == 0 or not isinstance(value[0], str):
        return False
    return (value[0], len(value)) in forms


def is_point(dimension, value):
    """Whether any value is a point of the dimension."""
    try:
        check_point(dimension, value)
    except NotPoint:
        return False
    return True


def is_direction(dimension, value):
    """Whether any value is a direction of the dimension."""
    try:
        check_direction(dimension, value)
    except NotRow:
        return False
    return True
