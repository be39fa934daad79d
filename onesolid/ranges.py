"""Claims on features, and for which values of a number they are so."""

from onesolid.canon import is_inside
from onesolid.cuttings import is_bounded
from onesolid.deeds import any_of, are_apart, both, either_one, is_within, rest
from onesolid.errors import NotHistory, Unlike
from onesolid.features import form_made
from onesolid.forms import form_told, is_all, is_empty
from onesolid.formulas import dimension_at, formula_led, paths_of
from onesolid.histories import form_in, outcomes_for, place_of_name, wanted_for
from onesolid.images import full_shadow, shadow
from onesolid.numbers import ascending, compared, lowest
from onesolid.points import check_point
from onesolid.rays import line_stretches
from onesolid.rows import coordinate_row
from onesolid.tellings import looks_in, parts_of_entry, worth_of

# How many features a claim with this word is on; "holds" has a point behind these.
CLAIMS = {"empty": 1, "all": 1, "bounded": 1, "within": 2, "equal": 2, "apart": 2, "holds": 1}
NOT_LED = ("close", "inner", "rim", "sum", "shrunk", "hull")
GREATEST_SPACE = 3


def check_claim(history, claim):
    """The claim, if any value is one on features of a history."""
    if not isinstance(claim, tuple) or len(claim) == 0 or not isinstance(claim[0], str) or claim[0] not in CLAIMS:
        raise NotHistory(())
    points = 1 if claim[0] == "holds" else 0
    if len(claim) != 1 + CLAIMS[claim[0]] + points:
        raise NotHistory(())
    for name in names_in_claim(claim):
        place_of_name(history[2], name)
    if points == 1:
        check_point(history[0], claim[2])
    return claim


def names_in_claim(claim):
    """The names of the features that a claim is on."""
    return claim[1:1 + CLAIMS[claim[0]]]


def is_so(history, claim):
    """Whether a claim is so."""
    check_claim(history, claim)
    return is_claim_so(claim, outcomes_for(history, names_in_claim(claim)))


def is_claim_so(claim, outcomes):
    """Whether a claim is so, by the outcomes of the features."""
    word = claim[0]
    forms = [form_in(outcomes[name]) for name in names_in_claim(claim)]
    if word == "empty":
        return is_empty(forms[0])
    if word == "all":
        return is_all(forms[0])
    if word == "bounded":
        return is_bounded(forms[0])
    if word == "within":
        return is_within(forms[0], forms[1])
    if word == "equal":
        return forms[0] == forms[1]
    if word == "apart":
        return are_apart(forms[0], forms[1])
    return is_inside(forms[0], claim[2])


def range_of(history, claim, number):
    """The form of all values with which, in the place of a number, a claim is so."""
    check_claim(history, claim)
    place_of_name(history[1], number)
    dimension, _, features = history
    wanted = wanted_for(history, names_in_claim(claim))
    known = dict(features)
    if dimension == GREATEST_SPACE or claim[0] == "bounded":
        raise Unlike()
    if not all([_can_be_led(dimension, known[name]) for name in wanted]):
        raise Unlike()
    forms = {}
    for name in wanted:
        telling = _led_telling(dimension, history[1], number, known[name])
        forms[name] = form_made(dimension + 1, telling, [forms[look] for look in looks_in(telling)])
    return _values_of(dimension, claim, [forms[name] for name in names_in_claim(claim)])


def _can_be_led(dimension, telling):
    """Whether a telling can be made in one dimension more."""
    if telling[0] in NOT_LED:
        return False
    if telling[0] != "of":
        return True
    formula = telling[1]
    return all([dimension_at(dimension, formula, path) <= GREATEST_SPACE for path in paths_of(formula)])


def _led_telling(dimension, numbers, number, telling):
    """A telling, with integers, of the set in one dimension more that a telling tells for all values of a number."""
    word = telling[0]
    if word == "of":
        return ("of", formula_led(telling[1], lambda row: _led_row(numbers, number, row), _led_table))
    if word == "moved":
        return ("back", _table_back(dimension, numbers, number, telling[1], 1), telling[2])
    if word == "copies":
        tables = [_table_back(dimension, numbers, number, telling[2], many) for many in range(telling[1])]
        return ("backs", tuple(tables), telling[3])
    if word == "back":
        return ("back", _led_table(telling[1]), telling[2])
    if word in ("along", "always"):
        return (word, (0,) + telling[1], telling[2])
    return telling


def _led_row(numbers, number, row):
    """A row with an entry behind, with how many times it takes a number ahead and with what remains of it behind."""
    many, base = _taken_apart(numbers, number, row[-1])
    return (many,) + row[:-1] + (base,)


def _taken_apart(numbers, number, entry):
    """How many times an entry takes a number, and its integer without that."""
    many = dict(parts_of_entry(entry)).get(number, 0)
    return many, worth_of(numbers, entry) - many * dict(numbers)[number]


def _led_table(table):
    """A table that leaves a coordinate ahead of the others as it is."""
    return (coordinate_row(len(table[0]), 0),) + tuple([(0,) + row for row in table])


def _table_back(dimension, numbers, number, entries, turns):
    """The table that leads each point back by some entries so many times; the number is its first coordinate."""
    rows = [coordinate_row(dimension + 1, 0)]
    for place, entry in enumerate(entries):
        many, base = _taken_apart(numbers, number, entry)
        row = coordinate_row(dimension + 1, place + 1)
        rows.append((-turns * many,) + row[1:-1] + (-turns * base,))
    return tuple(rows)


def _values_of(dimension, claim, forms):
    """The form of the values, as first coordinates, for which a claim is so of forms in one dimension more."""
    word = claim[0]
    if word == "holds":
        return _shadows(dimension, both(forms[0], _form_at(dimension, claim[2])))
    if word == "empty":
        wanted = rest(forms[0])
    elif word == "all":
        wanted = forms[0]
    elif word == "within":
        wanted = any_of(dimension + 1, (rest(forms[0]), forms[1]))
    elif word == "equal":
        wanted = rest(either_one(forms[0], forms[1]))
    else:
        wanted = rest(both(forms[0], forms[1]))
    for _ in range(dimension):
        wanted = full_shadow(wanted)
    return wanted


def _shadows(dimension, form):
    """The shadow of a form, so many times."""
    for _ in range(dimension):
        form = shadow(form)
    return form


def _form_at(dimension, point):
    """The form, in one dimension more, of all points that have the coordinates of a point behind their first one."""
    rows = []
    for place in range(dimension):
        row = [0] * (dimension + 1) + [-point[place]]
        row[place + 1] = point[-1]
        rows.append(("is", "eq", tuple(row)))
    return form_told(dimension + 1, ("and",) + tuple(rows))


def stretch(history, claim, number):
    """The greatest interval around a number's integer in which a claim is so throughout, or is not throughout."""
    form = range_of(history, claim, number)
    own = dict(history[1])[number]
    if not is_inside(form, (own, 1)):
        form = rest(form)
    # Along the way 1 from the origin the numbers are the coordinates.
    found = line_stretches(form, (0, 1), (1,))
    return [entry for entry in found if _is_around(entry, (own, 1))][0]


def _is_around(entry, value):
    """Whether a stretch holds a value, given that it or another one does."""
    low, _, high, _ = entry
    return (low is None or compared(low, value) <= 0) and (high is None or compared(value, high) <= 0)


def turns_at(history, claim, number):
    """The values of a number, ascending, at which it does not stay the same whether a claim is so."""
    return ascending([lowest(-last, own) for own, last in range_of(history, claim, number)[1]])
