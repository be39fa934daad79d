"""Flats led by tables."""

from onesolid.flats import flat_along, flat_directions, flat_point
from onesolid.holding import point_led
from onesolid.rows import slope


def flat_image(dimension, flat, table):
    """The flat of the images of the points of a flat by a table in this dimension."""
    point = point_led(table, flat_point(dimension, flat))
    directions = flat_directions(dimension, flat)
    steps = [tuple([slope(row, direction) for row in table]) for direction in directions]
    return flat_along(len(table), point, steps)
