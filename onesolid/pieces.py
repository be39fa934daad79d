"""Bounded sets cut into pieces that are matched with the pieces of other sets."""

from onesolid.cuttings import cutting, euler, is_bounded
from onesolid.errors import Endless, NotPaper, Unlike
from onesolid.forms import dimension_of
from onesolid.numbers import is_whole, wrong_place
from onesolid.simplices import cut_simplex, in_simplex, led_point


def pieces(form, cuts):
    """The pieces of a bounded set behind some cuts, told by any value."""
    whole = cutting(form)
    found = _pieces_behind(whole, cuts)
    if found is None:
        raise NotPaper("cut")
    return found


def _pieces_behind(whole, cuts):
    """The pieces behind some cuts of pieces, None of any other value."""
    if not isinstance(cuts, tuple):
        return None
    found = list(whole)
    for cut in cuts:
        if not _can_be_cut(found, cut):
            return None
        _cut_piece(found, cut)
    return tuple(found)


def _can_be_cut(found, cut):
    """Whether any value is a cut of some pieces: the number of one, and of two of its corners."""
    if wrong_place(cut, 3) is not None:
        return False
    number, one, other = cut
    if not 0 <= number < len(found) or one == other:
        return False
    return 0 <= min(one, other) and max(one, other) < len(found[number])


def _cut_piece(found, cut):
    """Puts the parts of a piece into a list of pieces."""
    number, one, other = cut
    first, second, wall = cut_simplex(found[number], one, other)
    found[number] = first
    found.extend([second, wall])


def check_moving(form, other, value):
    """Any value, if it is a moving of one bounded set to another one."""
    whole = cutting(form)
    other_whole = cutting(other)
    if not _is_triple(value):
        raise NotPaper("form")
    found = _pieces_behind(whole, value[0])
    if found is None:
        raise NotPaper("cut")
    others = _pieces_behind(other_whole, value[1])
    if others is None:
        raise NotPaper("other")
    if not _is_match(value[2], len(found), len(others)):
        raise NotPaper("match")
    if any([len(piece) != len(others[place]) for piece, place in zip(found, value[2])]):
        raise NotPaper("unlike")
    return value


def _is_triple(value):
    """Whether any value is a tuple of three tuples."""
    return isinstance(value, tuple) and len(value) == 3 and all([isinstance(thing, tuple) for thing in value])


def _is_match(value, many, others):
    """Whether a tuple is of all numbers of so many other pieces, each once, as many as there are pieces."""
    return many == others and all([is_whole(place) for place in value]) and sorted(value) == list(range(many))


def is_moved(form, other):
    """Whether there is a moving of one bounded set to another one."""
    if not is_bounded(form) or not is_bounded(other):
        raise Endless()
    return dimension_of(form) == dimension_of(other) and euler(form) == euler(other)


def moving(form, other):
    """A moving of one bounded set to another one."""
    if not is_moved(form, other):
        raise Unlike()
    found = list(cutting(form))
    others = list(cutting(other))
    cuts = []
    other_cuts = []
    # A cut makes one more piece of its dimension and one of the next lower one. From the greatest dimension down as
    # many are made in both; the number of points is then the same as the eulers are.
    for many in range(dimension_of(form) + 1, 1, -1):
        lacking = _many_of(others, many) - _many_of(found, many)
        cuts.extend(_cut_often(found, many, lacking))
        other_cuts.extend(_cut_often(others, many, -lacking))
        # For what is to be cut next both have some.
        cuts.extend(_cut_often(found, many, 1))
        other_cuts.extend(_cut_often(others, many, 1))
    return (tuple(cuts), tuple(other_cuts), _matched(found, others))


def _many_of(found, many):
    """How many of some pieces have so many corners."""
    return len([piece for piece in found if len(piece) == many])


def _cut_often(found, many, wanted):
    """The cuts, as many as told, none if that is negative, of the pieces with so many corners; these are cut so."""
    cuts = []
    while len(cuts) < wanted:
        # One after the other, so that no piece becomes very small.
        numbers = [number for number, piece in enumerate(found) if len(piece) == many]
        for number in numbers:
            if len(cuts) < wanted:
                cut = (number, 0, many - 1)
                _cut_piece(found, cut)
                cuts.append(cut)
    return cuts


def _matched(found, others):
    """For each piece the number of another one of the same dimension, each once."""
    waiting = {}
    for place, piece in enumerate(others):
        waiting.setdefault(len(piece), []).append(place)
    used = {many: 0 for many in waiting}
    matched = []
    for piece in found:
        many = len(piece)
        matched.append(waiting[many][used[many]])
        used[many] += 1
    return tuple(matched)


def moved_point(form, other, value, point):
    """The point to which a moving leads a point of the first set."""
    found = pieces(form, value[0])
    others = pieces(other, value[1])
    for piece, place in zip(found, value[2]):
        if in_simplex(piece, point):
            return led_point(piece, others[place], point)
    return None
