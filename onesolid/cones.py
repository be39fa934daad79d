"""Cones: the vectors at which some rows are 0 or not negative, told by the lines and rays of which they are sums.

Here a pair (WORD, ROW) asks that the product of the ROW with a vector is above 0 ("gt"), at least 0 ("ge"), 0 ("eq").
The cone of some pairs, which takes "ge" for each "gt", is told as (LINES, RAYS): its vectors are the sums of LINES,
multiplied by any numbers, and of RAYS, by numbers that are not negative; none of these can be left out. A ray is a
pair (VECTOR, ZEROS), and the bit K of ZEROS is set if the product of ROW number K with the VECTOR is 0.
"""

from onesolid.numbers import shortened
from onesolid.rows import weighed


def whole_cone(size):
    """The cone of all vectors of so many numbers."""
    return [tuple([1 if place == own else 0 for place in range(size)]) for own in range(size)], []


def cone_of(size, pairs):
    """The cone of some pairs."""
    cone = whole_cone(size)
    for number, pair in enumerate(pairs):
        cone = cone_cut(cone, number, pair)
    return cone


def cone_cut(cone, number, pair):
    """The part of a cone in which the next pair, which has this number, holds."""
    lines, rays = cone
    for place, line in enumerate(lines):
        if weighed(pair[1], line) != 0:
            return _cut_through_line(cone, place, number, pair)
    return lines, _cut_rays(rays, number, pair)


def _cut_through_line(cone, place, number, pair):
    """The part of a cone with a line along which the row grows: only there something is lost."""
    lines, rays = cone
    word, row = pair
    line = lines[place]
    if weighed(row, line) < 0:
        line = tuple([-part for part in line])
    bit = 1 << number
    left = [_lowered(row, other, line) for other in lines[:place] + lines[place + 1:]]
    lowered = [(_lowered(row, vector, line), zeros | bit) for vector, zeros in rays]
    if word != "eq":
        # A line is 0 at all rows before this one.
        lowered.append((line, bit - 1))
    return left, lowered


def _lowered(row, vector, line):
    """A positive multiple of the vector, with a multiple of a line along which the row grows, at which the row is 0."""
    rise = weighed(row, line)
    height = weighed(row, vector)
    return shortened([rise * number - height * part for number, part in zip(vector, line)])


def _cut_rays(rays, number, pair):
    word, row = pair
    bit = 1 << number
    above = []
    below = []
    kept = []
    for vector, zeros in rays:
        height = weighed(row, vector)
        if height == 0:
            kept.append((vector, zeros | bit))
        elif height > 0:
            above.append((vector, zeros, height))
        else:
            below.append((vector, zeros, height))
    for vector, zeros, height in above:
        for other, other_zeros, depth in below:
            if _are_neighbours(rays, zeros & other_zeros):
                between = shortened([height * low - depth * high for high, low in zip(vector, other)])
                kept.append((between, (zeros & other_zeros) | bit))
    if word != "eq":
        kept.extend([(vector, zeros) for vector, zeros, _ in above])
    return kept


def _are_neighbours(rays, common):
    """Whether no more than two rays, those that have just these zeros in common, are 0 at these rows."""
    many = 0
    for _, zeros in rays:
        if zeros & common == common:
            many += 1
            if many > 2:
                return False
    return True


def shared_zeros(rays):
    """The bits of the rows that are 0 at all rays; all bits if there are no rays."""
    shared = -1
    for _, zeros in rays:
        shared &= zeros
    return shared


def strict_bits(pairs):
    """The bits of those of some pairs that ask for more than 0."""
    return sum([1 << number for number, (word, _) in enumerate(pairs) if word == "gt"])


def holds_inside(cone, pairs):
    """Whether all pairs of a cone hold at some vector; they do so at the sum of the rays."""
    return shared_zeros(cone[1]) & strict_bits(pairs) == 0


def sum_of_rays(size, rays):
    """A multiple of the sum of some rays."""
    total = [0] * size
    for vector, _ in rays:
        total = [number + part for number, part in zip(total, vector)]
    return shortened(total)


def face_zeros(rays):
    """The bits of the rows that are 0 on a whole face of a cone, of each face to which some of the rays belong."""
    found = {}
    for _, zeros in rays:
        for others in list(found):
            found[others & zeros] = True
        found[zeros] = True
    return list(found)
