"""At which points a formula holds, and the planes by which this is told."""

from onesolid.errors import NotFormula, TooGreat
from onesolid.numbers import added, ascending, halfway, lowest, minus, shortened
from onesolid.rows import plane_of, weighed

MOST_LOOKED_AT = 200


def put_through(dimension, table, row):
    """The row of the dimension that has at each point the value of row at the point of the table's values."""
    made = [0] * dimension + [row[-1]]
    for times_taken, own in zip(row, table):
        made = [number + times_taken * part for number, part in zip(made, own)]
    return tuple(made)


def looked_at(dimension, formula):
    """The planes by whose signs at a point it is settled whether the formula holds there, ascending."""
    return study(dimension, formula)[0]


def study(dimension, formula):
    """The looked-at planes of a formula, and the formula with what its "some" and "every" need.

    Behind the part of a "some" or an "every" stand the looked-at planes of the part on which the last coordinate
    depends, so that they are not made again for each point.
    """
    word = formula[0]
    if word == "is":
        return _unlike([plane_of(formula[2])]), formula
    if word == "back":
        table = formula[1]
        planes, part = study(len(table), formula[2])
        led = [plane_of(put_through(dimension, table, plane)) for plane in planes]
        return _unlike(led), (word, table, part)
    if word in ("some", "every"):
        planes, part = study(dimension + 1, formula[1])
        return _unlike(_shadows(planes)), (word, part, _steep(planes))
    pairs = [study(dimension, part) for part in formula[1:]]
    planes = [plane for pair in pairs for plane in pair[0]]
    return _unlike(planes), (word,) + tuple([pair[1] for pair in pairs])


def _unlike(planes):
    """Some planes ascending, each once; None among them stands for none."""
    unlike = sorted({plane for plane in planes if plane is not None})
    if len(unlike) > MOST_LOOKED_AT:
        raise TooGreat(MOST_LOOKED_AT)
    return tuple(unlike)


def _steep(planes):
    """Those of some planes on which the last coordinate depends."""
    return tuple([plane for plane in planes if plane[-2] != 0])


def without_last(row):
    """A row without its last coefficient."""
    return row[:-2] + row[-1:]


def _shadows(planes):
    """The planes, without the last coordinate, at which the sequence of some planes over a point may change."""
    steep = _steep(planes)
    made = [without_last(plane) for plane in planes if plane[-2] == 0]
    for place, one in enumerate(steep):
        for other in steep[:place]:
            made.append(_crossing(one, other))
    return made


def _crossing(one, other):
    """The plane of the points over which two planes have one last coordinate, None if these are all or none."""
    pairs = zip(without_last(one), without_last(other))
    return plane_of(tuple([other[-2] * number - one[-2] * part for number, part in pairs]))


def places(dimension, formula, point):
    """The values of one more coordinate at which a looked-at plane of the formula is 0 over the point."""
    return _places_over(_steep(looked_at(dimension + 1, formula)), point)


def _places_over(steep, point):
    values = []
    for plane in steep:
        values.append(lowest(-weighed(without_last(plane), point), plane[-2] * point[-1]))
    return ascending(values)


def enough(dimension, formula, point):
    """Values of one more coordinate such that the formula holds over the point for one of them or for none at all."""
    return _enough_among(places(dimension, formula, point))


def _enough_among(values):
    """Each of some ascending values, and one value beside each and between any two."""
    if not values:
        return ((0, 1),)
    found = [minus(values[0], (1, 1)), values[0]]
    for one, other in zip(values, values[1:]):
        found.append(halfway(one, other))
        found.append(other)
    found.append(added(values[-1], (1, 1)))
    return tuple(found)


def holds(dimension, formula, point):
    """Whether a formula holds at a point."""
    return holds_there(study(dimension, formula)[1], point)


def witness(dimension, formula, point):
    """The first of enough values that shows that a "some" holds, or that an "every" does not; None if none does."""
    if formula[0] not in ("some", "every"):
        raise NotFormula(())
    return _first_witness(study(dimension, formula)[1], point)


def _first_witness(studied, point):
    word, part, steep = studied
    is_wanted = word == "some"
    for value in _enough_among(_places_over(steep, point)):
        if holds_there(part, point_above(point, value)) == is_wanted:
            return value
    return None


def point_above(point, value):
    """The point with one more coordinate, a fraction."""
    top, bottom = value
    numbers = [number * bottom for number in point[:-1]]
    return shortened(numbers + [top * point[-1], point[-1] * bottom])


def point_led(table, point):
    """The point whose coordinates are the values of the rows of a table at a point."""
    return shortened([weighed(row, point) for row in table] + [point[-1]])


def holds_there(studied, point):
    """Whether a formula, with what study puts to it, holds at a point."""
    word = studied[0]
    if word == "is":
        return is_as_word(studied[1], weighed(studied[2], point))
    if word == "not":
        return not holds_there(studied[1], point)
    if word == "back":
        return holds_there(studied[2], point_led(studied[1], point))
    if word in ("some", "every"):
        return (_first_witness(studied, point) is not None) == (word == "some")
    # One part with this worth settles the whole.
    settling = word == "or"
    for part in studied[1:]:
        if holds_there(part, point) == settling:
            return settling
    return not settling


def is_as_word(word, number):
    """Whether a number is less than 0, at most 0 and so on, as the word of an "is" wants."""
    if word == "lt":
        return number < 0
    if word == "le":
        return number <= 0
    if word == "eq":
        return number == 0
    if word == "ne":
        return number != 0
    if word == "ge":
        return number >= 0
    return number > 0
