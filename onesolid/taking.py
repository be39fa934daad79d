"""The last coordinate taken out of a system, and a value of it with which the system holds."""

from onesolid.errors import TooGreat, Unlike
from onesolid.holding import point_above, without_last
from onesolid.numbers import added, compared, halfway, lowest, minus, shortened, sign_of
from onesolid.points import check_point
from onesolid.rows import first_place, weighed
from onesolid.systems import check_system, first_failing, has_sign

MOST_TAKEN = 400


def taken_out(dimension, system):
    """The pairs that hold at a point exactly if the system holds above it with some value of the last coordinate."""
    _check_taken(dimension, system)
    place = _solving_place(system)
    made = _paired_up(system) if place is None else _solved(system, place)
    found = {}
    for word, row in made:
        pair = _reduced(word, without_last(row))
        if not _holds_everywhere(pair):
            found[pair] = True
    if len(found) > MOST_TAKEN:
        raise TooGreat(MOST_TAKEN)
    return tuple(found)


def _check_taken(dimension, system):
    check_system(dimension, system)
    if dimension == 1:
        raise Unlike()


def _solving_place(system):
    """The number of the first "eq" pair that tells the last coordinate, None if there is none."""
    for number, (word, row) in enumerate(system):
        if word == "eq" and row[-2] != 0:
            return number
    return None


def _solved(system, place):
    """The other pairs, with multiples of the "eq" pair at a place added so that their last coefficients become 0."""
    told = system[place][1]
    made = []
    for word, row in system[:place] + system[place + 1:]:
        made.append((word, _combined(abs(told[-2]), row, -row[-2] * sign_of(told[-2]), told)))
    return made


def _paired_up(system):
    """The pairs without last coefficient, then each one with a positive one and each with a negative one."""
    made = [(word, row) for word, row in system if row[-2] == 0]
    for word, row in system:
        for other_word, other in system:
            if row[-2] > 0 > other[-2]:
                both = "gt" if "gt" in (word, other_word) else "ge"
                made.append((both, _combined(-other[-2], row, row[-2], other)))
    return made


def _combined(factor, row, other_factor, other):
    return tuple([factor * number + other_factor * part for number, part in zip(row, other)])


def _reduced(word, row):
    """The pair with the least numbers that holds at the same points."""
    least = shortened(row)
    place = first_place(least)
    if word == "eq" and place is not None and least[place] < 0:
        least = tuple([-number for number in least])
    return word, least


def _holds_everywhere(pair):
    word, row = pair
    return first_place(row[:-1]) is None and has_sign(word, row[-1])


def lifted(dimension, system, point):
    """A value of the last coordinate with which a system holds above a point, None if there is none."""
    _check_taken(dimension, system)
    check_point(dimension - 1, point)
    value = _value_to_try(system, point)
    if first_failing(system, point_above(point, value)) is None:
        return value
    return None


def _value_to_try(system, point):
    """The one value with which the system holds above the point if it does so with any."""
    place = _solving_place(system)
    if place is not None:
        return _turn(system[place][1], point)
    low = None
    high = None
    for _, row in system:
        if row[-2] > 0:
            turn = _turn(row, point)
            if low is None or compared(turn, low) > 0:
                low = turn
        elif row[-2] < 0:
            turn = _turn(row, point)
            if high is None or compared(turn, high) < 0:
                high = turn
    return _between(low, high)


def _turn(row, point):
    """The value of the last coordinate with which a row is 0 above a point."""
    return lowest(-weighed(without_last(row), point), row[-2] * point[-1])


def _between(low, high):
    if low is not None and high is not None:
        return halfway(low, high)
    if low is not None:
        return added(low, (1, 1))
    if high is not None:
        return minus(high, (1, 1))
    return (0, 1)
