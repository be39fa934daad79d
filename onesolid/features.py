"""What tellings with integers make of the forms of the features that they look at."""

from onesolid.deeds import all_of, any_of, closed, inner, less, rest, rim
from onesolid.errors import TooGreat
from onesolid.forms import form_told, is_all, is_empty
from onesolid.hulls import hull_of
from onesolid.images import drawn_back, full_shadow, scaled, shadow, shifted
from onesolid.rows import first_place
from onesolid.sums import shrunk, sum_of
from onesolid.tellings import TWO_WORDS


def lined(dimension, direction):
    """Two tables: one that leads to points from the numbers of a line and on it, one that tells the line of a point."""
    own = first_place(direction)
    others = [place for place in range(dimension) if place != own]
    along = []
    for place in range(dimension):
        row = [0] * (dimension + 1)
        row[dimension - 1] = direction[place]
        if place != own:
            row[others.index(place)] = 1
        along.append(tuple(row))
    across = []
    for place in others:
        row = [0] * (dimension + 1)
        row[place] = direction[own]
        row[own] = -direction[place]
        across.append(tuple(row))
    return (tuple(along), tuple(across))


def outcome_of(dimension, telling, outcomes):
    """The outcome of a telling with integers, from those of the features that it looks at, in turn."""
    for outcome in outcomes:
        if outcome[0] == "great":
            return outcome
    try:
        return ("form", form_made(dimension, telling, [form for _, form in outcomes]))
    except TooGreat as error:
        return ("great", error.most)


def form_made(dimension, telling, forms):
    """The form that a telling with integers tells, from those of the features that it looks at, in turn.

    Beside what a history may have there is "backs", with a tuple of tables: drawn back by at least one of them.
    """
    word = telling[0]
    if word == "of":
        return form_told(dimension, telling[1])
    if word == "and":
        return all_of(dimension, tuple(forms))
    if word == "or":
        return any_of(dimension, tuple(forms))
    if word in TWO_WORDS:
        return _form_of_two(word, forms[0], forms[1])
    if word == "moved":
        return shifted(forms[0], telling[1] + (1,))
    if word == "copies":
        return _copies(dimension, telling[1], telling[2], forms[0])
    if word == "back":
        return drawn_back(forms[0], telling[1])
    if word == "backs":
        return any_of(dimension, tuple([drawn_back(forms[0], table) for table in telling[1]]))
    if word in ("along", "always"):
        return _form_along(dimension, word, telling[1], forms[0])
    return _form_of_one(word, forms[0])


def _form_of_two(word, form, other):
    if word == "less":
        return less(form, other)
    if word == "sum":
        return sum_of(form, other)
    return shrunk(form, other)


def _form_of_one(word, form):
    if word == "not":
        return rest(form)
    if word == "close":
        return closed(form)
    if word == "inner":
        return inner(form)
    if word == "rim":
        return rim(form)
    if word == "hull":
        return hull_of(form)
    return form


def _copies(dimension, many, steps, form):
    """The form of a set and of what it is if it is moved by some steps once, twice and so on."""
    copies = [shifted(form, tuple([turn * step for step in steps]) + (1,)) for turn in range(many)]
    return any_of(dimension, tuple(copies))


def _form_along(dimension, word, direction, form):
    """The form of all points from which some points along a direction, or all of them, are in a set."""
    if dimension == 1:
        is_whole_line = is_all(form) if word == "always" else not is_empty(form)
        return (1, (), ((),)) if is_whole_line else (1, (), ())
    along, across = lined(dimension, direction)
    lying = drawn_back(form, along)
    lines = shadow(lying) if word == "along" else full_shadow(lying)
    return drawn_back(scaled(lines, (direction[first_place(direction)], 1)), across)
