"""Tellings of features: what may stand in them, what they look at, and which numbers they name.

An entry is an integer or (base, parts), parts being pairs of the name of a number and how many times it is taken.
"""

from onesolid.formulas import formula_led, is_formula, rows_of
from onesolid.numbers import is_whole, wrong_place
from onesolid.papers import is_direction

MOST_INTEGER = 1000000
MOST_LETTERS = 8
MOST_PARTS = 4
MOST_NAMES = 12
MOST_COPIES = 60

# How many things a telling with this word has; "and" and "or" have any number of names.
LENGTHS = {
    "of": 2,
    "same": 2,
    "not": 2,
    "less": 3,
    "close": 2,
    "inner": 2,
    "rim": 2,
    "sum": 3,
    "shrunk": 3,
    "hull": 2,
    "moved": 3,
    "copies": 4,
    "back": 3,
    "along": 3,
    "always": 3,
}
MANY_WORDS = ("and", "or")
TWO_WORDS = ("less", "sum", "shrunk")


def is_name(value):
    """Whether any value is a name: 1 to 8 letters from a to z."""
    if not isinstance(value, str) or not 1 <= len(value) <= MOST_LETTERS:
        return False
    return all(["a" <= letter <= "z" for letter in value])


def is_integer(value):
    """Whether any value is an integer that may stand in a history."""
    return is_whole(value) and abs(value) <= MOST_INTEGER


def _is_sum(value):
    """Whether any value is an entry that is no integer."""
    if not isinstance(value, tuple) or len(value) != 2 or not is_integer(value[0]) or not isinstance(value[1], tuple):
        return False
    parts = value[1]
    if not 1 <= len(parts) <= MOST_PARTS or not all([_is_part(part) for part in parts]):
        return False
    names = [name for name, _ in parts]
    return all([one < other for one, other in zip(names, names[1:])])


def _is_part(value):
    if not isinstance(value, tuple) or len(value) != 2:
        return False
    return is_name(value[0]) and is_integer(value[1]) and value[1] != 0


def _are_entries(dimension, value):
    """Whether any value is a tuple of as many entries as the space has dimensions."""
    if not isinstance(value, tuple) or len(value) != dimension:
        return False
    return all([is_integer(entry) or _is_sum(entry) for entry in value])


def is_telling(dimension, value):
    """Whether any value is a telling of the dimension, whatever features and numbers there are."""
    if not isinstance(value, tuple) or len(value) == 0 or not isinstance(value[0], str):
        return False
    word = value[0]
    if word in MANY_WORDS:
        return 1 <= len(value) - 1 <= MOST_NAMES and all([is_name(name) for name in value[1:]])
    if word not in LENGTHS or len(value) != LENGTHS[word]:
        return False
    if word == "of":
        return is_formula(dimension, _without_sums(value[1]))
    return _are_told(dimension, word, value[1:]) and all([is_name(name) for name in looks_in(value)])


def _are_told(dimension, word, things):
    """Whether the things behind the word of a telling, but for the names of features, are as the word wants."""
    if word == "moved":
        return _are_entries(dimension, things[0])
    if word == "copies":
        many, entries, _ = things
        return is_whole(many) and 1 <= many <= MOST_COPIES and _are_entries(dimension, entries)
    if word == "back":
        table = things[0]
        return isinstance(table, tuple) and len(table) == dimension and all([_is_row(dimension, row) for row in table])
    if word in ("along", "always"):
        return is_direction(dimension, things[0]) and all([is_integer(number) for number in things[0]])
    return True


def _is_row(dimension, value):
    return wrong_place(value, dimension + 1) is None and all([is_integer(number) for number in value])


def _without_sums(value):
    """Any value, with 0 for the entries that are no integers where a formula may have some."""
    if not isinstance(value, tuple) or len(value) == 0 or not isinstance(value[0], str):
        return value
    if value[0] == "is":
        row = value[-1]
        if len(value) == 3 and isinstance(row, tuple) and len(row) > 0 and _is_sum(row[-1]):
            return value[:2] + (row[:-1] + (0,),)
        return value
    return value[:1] + tuple([_without_sums(part) for part in value[1:]])


def looks_in(telling):
    """The names of the features that a telling looks at, in turn."""
    word = telling[0]
    if word == "of":
        return ()
    if word in MANY_WORDS or word in TWO_WORDS:
        return telling[1:]
    return telling[-1:]


def without_looks(telling):
    """A telling without the names of the features that it looks at."""
    return telling[:len(telling) - len(looks_in(telling))]


def entries_in(telling):
    """The entries of a telling, in turn."""
    if telling[0] == "of":
        return tuple([row[-1] for row in rows_of(telling[1])])
    if telling[0] == "moved":
        return telling[1]
    return telling[2] if telling[0] == "copies" else ()


def numbers_in_telling(telling):
    """The names of the numbers that a telling names, ascending."""
    return tuple(sorted({name for entry in entries_in(telling) for name, _ in parts_of_entry(entry)}))


def parts_of_entry(entry):
    """The pairs (name, times) of an entry."""
    return entry[1] if isinstance(entry, tuple) else ()


def worth_of(numbers, entry):
    """The integer of an entry, with the numbers, pairs (name, integer)."""
    if not isinstance(entry, tuple):
        return entry
    known = dict(numbers)
    return entry[0] + sum([known[name] * many for name, many in entry[1]])


def with_integers(numbers, telling):
    """A telling with integers for all entries."""
    word = telling[0]
    if word == "of":
        formula = telling[1]
        return ("of", formula_led(formula, lambda row: row[:-1] + (worth_of(numbers, row[-1]),), lambda table: table))
    if word in ("moved", "copies"):
        entries = tuple([worth_of(numbers, entry) for entry in entries_in(telling)])
        return telling[:-2] + (entries, telling[-1])
    return telling
