"""Points of a line, told by numbers: a point and a number times a way, and where along it they belong to a set.

A course tells how the value of a plane goes along the line: its height at the number 0 and its growth, on one scale.
Between two numbers at which courses are 0 nothing changes; a BIT is such a number or what lies between two of them,
(LOW, HIGH, NUMBER): LOW and HIGH are its ends, fractions or None without an end, and NUMBER is one of its numbers.
"""

from onesolid.errors import NotRow
from onesolid.numbers import NOUGHT, ONE, added, ascending, compared, halfway, lowest, minus, sign_of, wrong_place
from onesolid.rows import slope, weighed


def need_way(dimension, value):
    """The value, if it is a way of the dimension: integers, not all 0."""
    place = wrong_place(value, dimension)
    if place is not None:
        raise NotRow(place)
    if not any(value):
        raise NotRow(-2)
    return value


def courses_along(planes, point, way):
    """The courses of some planes along the line of a point and a way."""
    return [(weighed(plane, point), slope(plane, way) * point[-1]) for plane in planes]


def courses_between(planes, point, other):
    """The courses of some planes from a point, at the number 0, to another one, at 1."""
    courses = []
    for plane in planes:
        near = weighed(plane, point) * other[-1]
        courses.append((near, weighed(plane, other) * point[-1] - near))
    return courses


def signs_at_number(courses, number):
    """The signs of planes at the point with a number."""
    top, bottom = number
    return tuple([sign_of(height * bottom + growth * top) for height, growth in courses])


def _turns(courses):
    """The numbers at which courses become 0."""
    return [lowest(-height, growth) for height, growth in courses if growth != 0]


def line_bits(courses):
    """The bits of a line, ascending."""
    return _bits((None,) + ascending(_turns(courses)) + (None,))


def ray_bits(courses):
    """The bits of a ray, ascending; the first one is the number 0."""
    ahead = [turn for turn in _turns(courses) if turn[0] > 0]
    return _bits(ascending([NOUGHT] + ahead) + (None,))


def segment_bits(courses):
    """The bits of a segment from the number 0, which is the first one, to 1, which is the last one."""
    inside = [turn for turn in _turns(courses) if turn[0] > 0 and compared(turn, ONE) < 0]
    return _bits(ascending([NOUGHT] + inside + [ONE]))


def _bits(ends):
    bits = []
    for low, high in zip(ends, ends[1:]):
        if low is not None:
            bits.append((low, low, low))
        bits.append((low, high, _number_between(low, high)))
    if ends[-1] is not None:
        bits.append((ends[-1], ends[-1], ends[-1]))
    return bits


def _number_between(low, high):
    if low is None:
        return NOUGHT if high is None else minus(high, ONE)
    return added(low, ONE) if high is None else halfway(low, high)


def first_bit(courses, bits, cells):
    """The first of some bits the points of which belong to a set, told by its cells, None if there is none."""
    for bit in bits:
        if signs_at_number(courses, bit[2]) in cells:
            return bit
    return None


def is_segment_in(planes, cells, point, other):
    """Whether both points and all between them belong to a set, told by its cells."""
    courses = courses_between(planes, point, other)
    for _, _, number in segment_bits(courses):
        if signs_at_number(courses, number) not in cells:
            return False
    return True


def has_between(planes, cells, point, other):
    """Whether a point strictly between two belongs to a set, told by its cells."""
    courses = courses_between(planes, point, other)
    # Both points are the first and the last bit.
    return point != other and first_bit(courses, segment_bits(courses)[1:-1], cells) is not None


def has_behind(planes, cells, point, way):
    """Whether a point of a ray behind its beginning belongs to a set, told by its cells."""
    courses = courses_along(planes, point, way)
    return first_bit(courses, ray_bits(courses)[1:], cells) is not None


def first_on_ray(planes, cells, point, way):
    """What a ray meets first of a set: ("met", number), ("near", number), None if no point of it is in the set."""
    courses = courses_along(planes, point, way)
    bit = first_bit(courses, ray_bits(courses), cells)
    if bit is None:
        return None
    return ("met" if bit[0] == bit[1] else "near", bit[0])


def stretches_in(courses, bits, cells):
    """The greatest stretches of the numbers of bits that belong to a set: (low, has low, high, has high)."""
    found = []
    goes_on = False
    for low, high, number in bits:
        is_in = signs_at_number(courses, number) in cells
        if is_in:
            is_one = low == high and low is not None
            begun = found.pop()[:2] if goes_on else (low, is_one)
            found.append(begun + (high, is_one))
        goes_on = is_in
    return tuple(found)
