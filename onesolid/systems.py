"""Systems: pairs (word, row), and at which points all of them hold."""

from onesolid.errors import NotSystem
from onesolid.numbers import wrong_place
from onesolid.points import check_point
from onesolid.rows import weighed

MOST_PAIRS = {1: 60, 2: 60, 3: 24, 4: 12}
PAIR_WORDS = ("gt", "ge", "eq")


def check_system(dimension, system):
    """The system, if it is one of the dimension."""
    if not isinstance(system, tuple) or len(system) > MOST_PAIRS[dimension]:
        raise NotSystem(None)
    for number, pair in enumerate(system):
        if not _is_pair(dimension, pair):
            raise NotSystem(number)
    return system


def _is_pair(dimension, value):
    if not isinstance(value, tuple) or len(value) != 2:
        return False
    word, row = value
    return isinstance(word, str) and word in PAIR_WORDS and wrong_place(row, dimension + 1) is None


def has_sign(word, number):
    """Whether a number is above 0, at least 0 or 0, as the word of a pair wants."""
    if word == "gt":
        return number > 0
    if word == "ge":
        return number >= 0
    return number == 0


def first_failing(pairs, point):
    """The number of the first of some pairs that does not hold at a point, None if all do."""
    for number, (word, row) in enumerate(pairs):
        if not has_sign(word, weighed(row, point)):
            return number
    return None


def loosened(pairs):
    """Some pairs with "ge" for each "gt"."""
    return tuple([("ge" if word == "gt" else word, row) for word, row in pairs])


def holds_all(dimension, system, point):
    """Whether a system holds at a point."""
    return first_broken(dimension, system, point) is None


def first_broken(dimension, system, point):
    """The number of the first pair of a system that does not hold at a point, None if all do."""
    check_system(dimension, system)
    check_point(dimension, point)
    return first_failing(system, point)
