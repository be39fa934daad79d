"""Bodies: the one form (flat, walls, out) of the set of a system, None of the empty set."""

from onesolid.closures import (closure_of, face_of_pair, greatest_faces, has_point, is_at_points, is_zero, rays_on,
                               sum_point)
from onesolid.cones import face_zeros, shared_zeros
from onesolid.errors import Empty, NotForm, NotRow
from onesolid.flats import check_flat, cleared_by_all, flat_dimension, flat_of
from onesolid.numbers import is_whole, shortened, wrong_place
from onesolid.rows import weighed
from onesolid.systems import check_system


def body_of(dimension, system):
    """The body of the set of a system."""
    check_system(dimension, system)
    return _body_of_pairs(dimension, system)


def _body_of_pairs(dimension, pairs):
    cone = closure_of(dimension, pairs)
    if cone is None:
        return None
    rays = cone[1]
    shared = shared_zeros(rays)
    flat = flat_of(dimension, [row for number, (_, row) in enumerate(pairs) if is_zero(shared, number)])
    walls = _sides(rays, pairs, flat)
    left_out = [face_of_pair(rays, number) for number, (word, _) in enumerate(pairs) if word == "gt"]
    greatest_out = greatest_faces([zeros for zeros in left_out if zeros is not None])
    out = sorted({_numbers_of_face(walls, zeros) for zeros in greatest_out})
    return (flat, tuple([row for row, _ in walls]), tuple(out))


def _sides(rays, pairs, flat):
    """The walls of a closure within its flat, ascending, each with its zeros."""
    shared = shared_zeros(rays)
    rows = {}
    for number, (_, row) in enumerate(pairs):
        zeros = face_of_pair(rays, number)
        if zeros is not None and not is_zero(shared, number):
            rows[zeros] = row
    return sorted([(shortened(cleared_by_all(rows[zeros], flat)), zeros) for zeros in greatest_faces(list(rows))])


def _numbers_of_face(walls, zeros):
    """The numbers of the walls in which a face lies."""
    return tuple([number for number, (_, own) in enumerate(walls) if zeros & own == own])


def is_body(dimension, value):
    """Whether any value is the body of some system of the dimension."""
    if value is None:
        return True
    return _is_like_body(dimension, value) and _body_of_pairs(dimension, _pairs_of(dimension, value)) == value


def _is_like_body(dimension, value):
    """Whether any value is a triple of a flat, rows, and tuples of numbers of these."""
    if not isinstance(value, tuple) or len(value) != 3:
        return False
    flat, walls, out = value
    try:
        check_flat(dimension, flat)
    except NotRow:
        return False
    if not isinstance(walls, tuple) or not isinstance(out, tuple):
        return False
    if any([wrong_place(wall, dimension + 1) is not None for wall in walls]):
        return False
    return all([_are_numbers(face, len(walls)) for face in out])


def _are_numbers(value, many):
    """Whether any value is a tuple of numbers of so many things."""
    return isinstance(value, tuple) and all([is_whole(number) and 0 <= number < many for number in value])


def check_body(dimension, body):
    """The value, if it is a body of the dimension."""
    if not is_body(dimension, body):
        raise NotForm("body")
    return body


def system_of(dimension, body):
    """The pairs that tell the set of a body."""
    check_body(dimension, body)
    return _pairs_of(dimension, body)


def _pairs_of(dimension, body):
    if body is None:
        return (("ge", (0,) * dimension + (-1,)),)
    flat, walls, out = body
    pairs = [("eq", row) for row in flat] + [("ge", row) for row in walls]
    for face in out:
        total = [0] * (dimension + 1)
        for number in face:
            total = [part + more for part, more in zip(total, walls[number])]
        pairs.append(("gt", tuple(total)))
    return tuple(pairs)


def same_set(dimension, system, other):
    """Whether two systems hold at the same points."""
    return parting_of(dimension, system, other) is None


def set_within(dimension, system, other):
    """Whether the second system holds at each point at which the first one does."""
    check_system(dimension, system)
    check_system(dimension, other)
    return _point_less(dimension, system, other) is None


def parting_of(dimension, system, other):
    """A point at which just one of two systems holds, None if there is none."""
    check_system(dimension, system)
    check_system(dimension, other)
    point = _point_less(dimension, system, other)
    return _point_less(dimension, other, system) if point is None else point


def needless(dimension, system):
    """The numbers of the pairs without each of which alone a system holds at the same points."""
    check_system(dimension, system)
    found = []
    for number in range(len(system)):
        others = system[:number] + system[number + 1:]
        if _point_less(dimension, others, system[number:number + 1]) is None:
            found.append(number)
    return tuple(found)


def _point_less(dimension, pairs, others):
    """A point at which some pairs hold and not all of some others, None if there is none."""
    cone = closure_of(dimension, pairs)
    if cone is None:
        return None
    for word, row in others:
        point = _point_below(dimension, cone, row)
        if point is None and word == "eq":
            point = _point_below(dimension, cone, tuple([-number for number in row]))
        if point is None and word == "gt":
            point = _point_at(dimension, cone[1], pairs, row)
        if point is not None:
            return point
    return None


def _point_below(dimension, cone, row):
    """A point of the set within a closure at which a row is negative, None if there is none."""
    lines, rays = cone
    inside = sum_point(dimension, rays)
    for vector in lines + [tuple([-number for number in line]) for line in lines] + [ray[0] for ray in rays]:
        fall = -weighed(row, vector)
        if fall > 0:
            # So far along the vector that the row must have become negative, but within the set as before.
            steps = max(0, weighed(row, inside)) // fall + 1
            return shortened([number + steps * part for number, part in zip(inside, vector)])
    return None


def _point_at(dimension, rays, pairs, row):
    """A point at which some pairs hold and a row is 0, given that it is nowhere negative; None if there is none."""
    level = rays_on(rays, row)
    return sum_point(dimension, level) if has_point(dimension, level, pairs) else None


def faces(dimension, body):
    """The faces of a body, ascending pairs of the dimension and the numbers of the walls that are 0 on it."""
    check_body(dimension, body)
    if body is None:
        return ()
    flat, walls, _ = body
    found = []
    for zeros in face_zeros(closure_of_body(dimension, body)[1]):
        if is_at_points(zeros):
            numbers = [number for number in range(len(walls)) if is_zero(zeros, number)]
            own_flat = flat_of(dimension, flat + tuple([walls[number] for number in numbers]))
            found.append((flat_dimension(dimension, own_flat), tuple(numbers)))
    return tuple(sorted(found))


def closure_of_body(dimension, body):
    """The cone of the closure of a body that is not None; the walls are its first pairs."""
    flat, walls, _ = body
    return closure_of(dimension, [("ge", row) for row in walls] + [("eq", row) for row in flat])


def is_bounded_body(dimension, body):
    """Whether the set of a body lies in some box."""
    check_body(dimension, body)
    if body is None:
        return True
    lines, rays = closure_of_body(dimension, body)
    return not lines and all([is_at_points(zeros) for _, zeros in rays])


def inner_point(dimension, body):
    """A point of the set of a body that lies in no face but the whole closure."""
    check_body(dimension, body)
    if body is None:
        raise Empty()
    return sum_point(dimension, closure_of_body(dimension, body)[1])
