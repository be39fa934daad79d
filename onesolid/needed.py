"""The planes that cut out flats, and the flats of a set."""

from onesolid.errors import TooGreat
from onesolid.flats import flat_of, in_sequence, is_on_row
from onesolid.grids import grid_of
from onesolid.sights import flats_in


def cut_out(dimension, flats):
    """CUT of some flats: planes, ascending, that cut out each of them."""
    taken = []
    for flat in in_sequence(flats):
        taken.extend(_rows_lacking(dimension, taken, flat))
    return tuple(sorted(taken))


def cut_at_most(dimension, flats, most):
    """CUT of some flats; it is refused if it has more than most planes."""
    taken = []
    for flat in in_sequence(flats):
        taken.extend(_rows_lacking(dimension, taken, flat))
        if len(taken) > most:
            raise TooGreat(most)
    return tuple(sorted(taken))


def _rows_lacking(dimension, planes, flat):
    """The rows of a flat that are taken, behind some planes, so that all of them cut it out."""
    meet = _meet_around(dimension, planes, flat)
    lacking = []
    for row in flat:
        if not is_on_row(meet, row):
            lacking.append(row)
            meet = flat_of(dimension, meet + (row,))
    return lacking


def _meet_around(dimension, planes, flat):
    """The intersection of those of some planes that contain a flat."""
    return flat_of(dimension, [plane for plane in planes if is_on_row(flat, plane)])


def is_cut_out(dimension, planes, flat):
    """Whether some planes cut out a flat."""
    return _meet_around(dimension, planes, flat) == flat


def flats_of(form):
    """The flats of the set, in sequence."""
    grid, lot = grid_of(form)
    return flats_in(grid, lot)


def walls_of(form):
    """The planes among the flats of the set, ascending."""
    return tuple(sorted([flat[0] for flat in flats_of(form) if len(flat) == 1]))
