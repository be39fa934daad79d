"""Pictures of scenes of sets: what the rays of dots meet first, and how it is lit."""

from onesolid.canon import in_dict
from onesolid.errors import NotForm, NotRow, Unlike
from onesolid.numbers import NOUGHT, ONE, compared, is_whole, lowest, total_of, wrong_place
from onesolid.papers import is_point, is_worded
from onesolid.points import moved_by, steps_between
from onesolid.rays import planes_met
from onesolid.rows import product_of
from onesolid.walks import first_on_ray, has_behind, has_between

VIEW_WORDS = ("eye", "flat")
MOST_DOTS = 24
MOST_LIGHTS = 4


def need_view(dimension, value):
    """The value, if it is a view of the dimension."""
    if not isinstance(value, tuple) or len(value) != 7 or not isinstance(value[0], str) or value[0] not in VIEW_WORDS:
        raise NotRow(-1)
    if not is_point(dimension, value[1]):
        raise NotRow(1)
    for place in range(2, 5):
        if wrong_place(value[place], dimension) is not None:
            raise NotRow(place)
    for place in range(5, 7):
        if not is_whole(value[place]) or not 1 <= value[place] <= MOST_DOTS:
            raise NotRow(place)
    if not all([any(way) for row in _rays_of(value) for _, way in row]):
        raise NotRow(7)
    return value


def _rays_of(view):
    """The rays of the dots of a view, row by row: pairs of a point and a way."""
    word, point, corner, right, down, wide, high = view
    rows = []
    for row in range(high):
        steps = [_added_up(right, column, down, row) for column in range(wide)]
        if word == "eye":
            rows.append([(point, _added_up(corner, 1, step, 1)) for step in steps])
        else:
            rows.append([(moved_by(point, step, ONE), corner) for step in steps])
    return rows


def _added_up(numbers, many, others, more):
    """The sum of some numbers and of others, both so many times."""
    return tuple([many * one + more * two for one, two in zip(numbers, others)])


def picture(scene, view):
    """What the dots of a view meet first: rows of None or (number of the form, word, number on the ray)."""
    rows = _rays_in(scene, view)
    sets = _sets_of(scene)
    return tuple([tuple([_first_of(sets, point, way) for point, way in row]) for row in rows])


def _rays_in(scene, view):
    """The rays of the dots of any value, if it is a view of a scene."""
    dimensions = sorted({form[0] for form in scene})
    if len(dimensions) != 1 or dimensions[0] == 1:
        raise Unlike()
    return _rays_of(need_view(dimensions[0], view))


def _sets_of(scene):
    """The planes and the cells, in a dict, of each form of a scene."""
    return [(planes, in_dict(cells)) for _, planes, cells in scene]


def _first_of(sets, point, way):
    """What a ray meets first of several sets: (number of the set, word, number on the ray), None of nothing."""
    found = None
    for number, (planes, cells) in enumerate(sets):
        met = first_on_ray(planes, cells, point, way)
        if met is not None and (found is None or _is_ahead(met, found)):
            found = (number,) + met
    return found


def _is_ahead(met, found):
    """Whether what a ray meets of a set comes ahead of what was found, which is of a set ahead."""
    order = compared(met[1], found[2])
    return order < 0 or (order == 0 and met[0] == "met" and found[1] == "near")


def lit(scene, view, lights, steps):
    """How much light the dots of a view have: rows of None or a number up to steps."""
    rows = _rays_in(scene, view)
    _check_lights(scene[0][0], lights)
    sets = _sets_of(scene)
    return tuple([tuple([_light_of_dot(sets, point, way, lights, steps) for point, way in row]) for row in rows])


def _check_lights(dimension, lights):
    """Refuses any value that is no tuple of lights, not too many."""
    if not isinstance(lights, tuple) or len(lights) > MOST_LIGHTS:
        raise NotForm("light")
    if not all([_is_light(dimension, light) for light in lights]):
        raise NotForm("light")


def _is_light(dimension, value):
    if not is_worded(value, (("point", 2), ("far", 2))):
        return False
    if value[0] == "point":
        return is_point(dimension, value[1])
    return wrong_place(value[1], dimension) is None and any(value[1])


def _light_of_dot(sets, point, way, lights, steps):
    found = _first_of(sets, point, way)
    if found is None:
        return None
    number, _, amount = found
    planes = sets[number][0]
    through = planes_met(planes, point, way, amount)
    if not through:
        return 0
    normal = planes[through[0]][:-1]
    if product_of(normal, way) > 0:
        normal = tuple([-part for part in normal])
    place = moved_by(point, way, amount)
    top, bottom = total_of([_light_at(sets, place, normal, light) for light in lights])
    return min(steps, steps * top // bottom)


def _light_at(sets, place, normal, light):
    """The share of a light, a fraction, that comes to a point of a wall with a normal."""
    word, source = light
    toward_it = source if word == "far" else steps_between(place, source)
    height = product_of(normal, toward_it)
    if height <= 0 or _is_shaded(sets, place, light):
        return NOUGHT
    return lowest(height * height, product_of(normal, normal) * product_of(toward_it, toward_it))


def _is_shaded(sets, place, light):
    """Whether a point strictly between a point and a light belongs to a set."""
    word, source = light
    for planes, cells in sets:
        if word == "point":
            is_between = has_between(planes, cells, place, source)
        else:
            is_between = has_behind(planes, cells, place, source)
        if is_between:
            return True
    return False
