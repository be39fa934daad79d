"""Formulas: nested tuples that tell sets of points, and the paths that lead into them."""

from onesolid.errors import NotFormula
from onesolid.numbers import is_whole

MOST_WORDS = 200
MOST_DEPTH = 12
GREATEST_NUMBER = 1000000
GREATEST_DIMENSION = 4

OPPOSITES = {
    "lt": "ge",
    "ge": "lt",
    "le": "gt",
    "gt": "le",
    "eq": "ne",
    "ne": "eq",
    "and": "or",
    "or": "and",
    "some": "every",
    "every": "some",
}
SIGN_WORDS = ("lt", "le", "eq", "ne", "ge", "gt")
# How many things each formula with this word has; "and" and "or" have any number.
LENGTHS = {"is": 3, "not": 2, "some": 2, "every": 2, "back": 3}


def check_formula(dimension, value):
    """The value, if it is a formula of the dimension that has not too many words and is not too deep."""
    words = 0
    depth = 0
    # The parts that are still to be judged; the one at the end is the next one from the left.
    waiting = [((), dimension, value)]
    while waiting:
        path, space, thing = waiting.pop()
        _check_own(path, space, thing)
        words += 1
        depth = max(depth, len(path) + 1)
        for place in reversed(inner_places(thing)):
            waiting.append((path + (place,), inner_dimension(space, thing), thing[place]))
    if words > MOST_WORDS or depth > MOST_DEPTH:
        raise NotFormula(())
    return value


def _check_own(path, dimension, thing):
    """Refuses what is wrong with a thing itself, not with the formulas in it."""
    if not _has_word(thing):
        raise NotFormula(path)
    word = thing[0]
    if word in ("some", "every") and dimension == GREATEST_DIMENSION:
        raise NotFormula(path)
    if word == "is":
        if not isinstance(thing[1], str) or thing[1] not in SIGN_WORDS:
            raise NotFormula(path + (1,))
        _check_numbers(path + (2,), dimension, thing[2])
    if word == "back":
        _check_table(path + (1,), dimension, thing[1])


def _has_word(thing):
    """Whether a thing is a tuple of a word of formulas and as many things as the word wants."""
    if not isinstance(thing, tuple) or len(thing) == 0 or not isinstance(thing[0], str):
        return False
    if thing[0] in ("and", "or"):
        return True
    return thing[0] in LENGTHS and len(thing) == LENGTHS[thing[0]]


def _check_table(path, dimension, table):
    if not isinstance(table, tuple) or not 1 <= len(table) <= GREATEST_DIMENSION:
        raise NotFormula(path)
    for place, row in enumerate(table):
        _check_numbers(path + (place,), dimension, row)


def _check_numbers(path, dimension, row):
    if not isinstance(row, tuple) or len(row) != dimension + 1:
        raise NotFormula(path)
    for place, number in enumerate(row):
        if not is_whole(number) or abs(number) > GREATEST_NUMBER:
            raise NotFormula(path + (place,))


def is_formula(dimension, value):
    """Whether any value is a formula of the dimension."""
    try:
        check_formula(dimension, value)
    except NotFormula:
        return False
    return True


def inner_places(formula):
    """The places of a formula at which there are formulas, ascending."""
    if formula[0] == "is":
        return []
    if formula[0] == "back":
        return [2]
    return list(range(1, len(formula)))


def inner_dimension(dimension, formula):
    """The dimension of the formulas directly in a formula of the dimension."""
    if formula[0] in ("some", "every"):
        return dimension + 1
    if formula[0] == "back":
        return len(formula[1])
    return dimension


def inner_parts(formula):
    """The formulas directly in a formula."""
    return [formula[place] for place in inner_places(formula)]


def words_of(formula):
    """How many words a formula has."""
    return 1 + sum([words_of(part) for part in inner_parts(formula)])


def depth_of(formula):
    """How deep a formula is."""
    return 1 + max([depth_of(part) for part in inner_parts(formula)], default=0)


def paths_of(formula):
    """The paths of a formula and of all formulas in it, ascending."""
    paths = [()]
    for place in inner_places(formula):
        for path in paths_of(formula[place]):
            paths.append((place,) + path)
    return tuple(paths)


def part_at(formula, path):
    """The formula to which a path leads."""
    if not isinstance(path, tuple):
        raise NotFormula(path)
    part = formula
    for place in path:
        if not is_whole(place) or place not in inner_places(part):
            raise NotFormula(path)
        part = part[place]
    return part


def dimension_at(dimension, formula, path):
    """The dimension of the formula to which a path leads."""
    part_at(formula, path)
    space = dimension
    part = formula
    for place in path:
        space = inner_dimension(space, part)
        part = part[place]
    return space


def rows_of(formula):
    """The rows of all "is" in a formula, their paths ascending."""
    if formula[0] == "is":
        return (formula[2],)
    return tuple([row for part in inner_parts(formula) for row in rows_of(part)])


def put_at(dimension, formula, path, part):
    """The formula with a part of the right dimension in the place to which a path leads."""
    part_at(formula, path)
    whole = _with_part(formula, path, part)
    if words_of(whole) > MOST_WORDS or depth_of(whole) > MOST_DEPTH:
        raise NotFormula(())
    return whole


def _with_part(formula, path, part):
    if not path:
        return part
    place = path[0]
    fresh = _with_part(formula[place], path[1:], part)
    return formula[:place] + (fresh,) + formula[place + 1:]


def without_not(formula):
    """A formula without "not" that holds at the same points."""
    return _settled(formula, False)


def _settled(formula, is_denied):
    """A formula, or what denies it, without "not"."""
    word = formula[0]
    if word == "not":
        return _settled(formula[1], not is_denied)
    if word == "is":
        return ("is", OPPOSITES[formula[1]], formula[2]) if is_denied else formula
    if word == "back":
        return ("back", formula[1], _settled(formula[2], is_denied))
    parts = [_settled(part, is_denied) for part in formula[1:]]
    return (OPPOSITES[word] if is_denied else word,) + tuple(parts)


def formula_led(formula, row_of, table_of):
    """A formula with the rows that a function gives for those of its "is", and the tables for those of its "back"."""
    word = formula[0]
    if word == "is":
        return ("is", formula[1], row_of(formula[2]))
    if word == "back":
        return ("back", table_of(formula[1]), formula_led(formula[2], row_of, table_of))
    return (word,) + tuple([formula_led(part, row_of, table_of) for part in formula[1:]])
