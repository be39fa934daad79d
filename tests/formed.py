"""Sets for tests, and their forms told anew: looks, flats, CUT and cells by trying everything that the words allow."""

from itertools import combinations
from random import Random

from anew import has_points, reduced, whole
from arranged import SPECIAL, cells_anew, pairs_anew, some_planes
from making import small_formula
from onesolid.cells import cells_of
from onesolid.deeds import both
from onesolid.endless import is_cell_bounded
from onesolid.errors import TooGreat
from onesolid.forms import form_from, form_of

MOST = {1: 60, 2: 24, 3: 16}
EMPTY = {dimension: (dimension, (), ()) for dimension in (1, 2, 3)}
ALL = {dimension: (dimension, (), ((),)) for dimension in (1, 2, 3)}


def unit(dimension, place, last=0):
    """The row of one coordinate, with a number added to it."""
    return tuple(int(place == own) for own in range(dimension)) + (last,)


def box(dimension, low=0, high=1, words=("ge", "le")):
    """A formula of a box with the same ends along all coordinates."""
    parts = [("is", word, unit(dimension, place, -end)) for place in range(dimension)
             for word, end in zip(words, (low, high))]
    return ("and",) + tuple(parts)


def lone(*coordinates):
    """A formula of one point with integers as its coordinates."""
    dimension = len(coordinates)
    return ("and",) + tuple(("is", "eq", unit(dimension, place, -number)) for place, number in enumerate(coordinates))


def points_of_line(numbers):
    """A form of dimension 1 of some ascending integers."""
    planes = tuple(sorted((1, -number) for number in numbers))
    cells = [signs for signs in cells_of(1, planes) if 0 in signs]
    return form_from(1, planes, tuple(cells))


def is_face(signs, other):
    """Whether the signs come from the other ones by making some 0."""
    return all(sign in (0, own) for sign, own in zip(signs, other))


def meet_anew(planes):
    return tuple(whole(row) for row in reduced(planes))


def contains(plane, rows):
    """Whether a plane contains the flat of some rows."""
    return len(reduced(list(rows) + [plane])) == len(reduced(rows))


def look_anew(planes, cells, inside, signs):
    """The look at the points of a cell: the greatest of all intersections of planes through them on which it hangs."""
    star = [cell for cell in cells if is_face(signs, cell)]
    through = [place for place, sign in enumerate(signs) if sign == 0]
    for many in range(len(through) + 1):
        for lot in combinations(through, many):
            meet = meet_anew([planes[place] for place in lot])
            if len(meet) == many:
                used = [place for place in through if contains(planes[place], meet)]
                if hangs_anew(star, inside, used):
                    return meet
    raise AssertionError


def hangs_anew(star, inside, used):
    sorts = {}
    for cell in star:
        sorts.setdefault(tuple(cell[place] for place in used), set()).add(cell in inside)
    return all(len(found) == 1 for found in sorts.values())


def cut_anew(flats):
    taken = []
    for _, flat in sorted({(len(flat), flat) for flat in flats}):
        meet = [plane for plane in taken if contains(plane, flat)]
        for row in flat:
            if not contains(row, meet):
                taken.append(row)
                meet.append(row)
    return tuple(sorted(taken))


def flats_anew(planes, cells, inside):
    looks = {look_anew(planes, cells, inside, signs) for signs in cells} - {()}
    return tuple(sorted(looks, key=lambda flat: (len(flat), flat)))


def form_anew(dimension, planes, inside):
    """The form of the union of some cells of planes."""
    cells = cells_anew(dimension, planes)
    cut = cut_anew(flats_anew(planes, cells, inside))
    found = []
    for signs in cells_anew(dimension, cut):
        own = pairs_anew(cut, signs)
        if any(has_points(own + pairs_anew(planes, cell), dimension) for cell in inside):
            found.append(signs)
    return (dimension, cut, tuple(found))


def some_lots(dimension, many, most, seed):
    """Tuples of planes with some of their cells: many of one dimension, few, all but few, or any."""
    random = Random(seed)
    for number in range(many):
        special = SPECIAL[dimension]
        planes = special[number] if number < len(special) else some_planes(random, dimension, random.randint(0, most))
        cells = cells_of(dimension, planes)
        share = random.choice((0.05, 0.3, 0.5, 0.95))
        noughts = random.choice((None, None, 0, 1, 2, 3))
        yield planes, tuple(signs for signs in cells
                            if random.random() < share and noughts in (None, signs.count(0)))


def some_forms(dimension, many, most, seed):
    """Forms of such lots that have not too many planes."""
    for planes, cells in some_lots(dimension, many, most, seed):
        try:
            yield form_from(dimension, planes, cells)
        except TooGreat:
            pass


def told_forms(dimension, many, seed, depth=4):
    """Forms of small formulas without another dimension in them."""
    random = Random(seed)
    for _ in range(many):
        try:
            yield form_of(dimension, small_formula(random, dimension, depth, ("and", "or", "not", "and", "or")))
        except TooGreat:
            pass


def pairs_of(form):
    """For each of the cells of a form the pairs that hold in it."""
    return [pairs_anew(form[1], signs) for signs in form[2]]


def holds_at(pairs, coordinates):
    """Whether some pairs hold at a point with these coordinates."""
    values = [sum(a * x for a, x in zip(row, coordinates)) + row[-1] for _, row in pairs]
    return all({"gt": value > 0, "ge": value >= 0, "eq": value == 0}[word] for (word, _), value in zip(pairs, values))


def in_form(form, coordinates):
    """Whether a point with these coordinates belongs to the set of a form."""
    return any(holds_at(pairs, coordinates) for pairs in pairs_of(form))


def bounded_forms(dimension, many, seed):
    """Forms within a box: boxes with parts taken out, and lots of bounded cells."""
    frame = form_of(dimension, box(dimension, -3, 4, ("ge", "lt")))
    for form in told_forms(dimension, many, seed):
        try:
            yield both(form, frame)
        except TooGreat:
            pass
    random = Random(seed)
    for form in some_forms(dimension, 2 * many, 6, seed + 1):
        cells = [signs for signs in cells_of(dimension, form[1]) if is_cell_bounded(dimension, form[1], signs)]
        inside = tuple(signs for signs in cells if random.random() < 0.6)
        try:
            yield form_from(dimension, form[1], inside)
        except TooGreat:
            pass


def hard_to_close():
    """A form of space the closure of which has too many planes.

    Below a plane, slits along 15 others; above it, lone points where these meet. Without the slits, which are no part
    of the closure's rim, the lone points need more planes.
    """
    planes = tuple((1, k, k * k, k ** 3 * 7 + 1) for k in range(1, 16)) + ((0, 0, 1, 150),)
    inside = [signs for signs in cells_of(3, planes)
              if (0 not in signs and signs[-1] < 0) or (signs.count(0) == 3 and signs[-1] > 0)]
    return form_from(3, planes, tuple(inside))
