"""Meets: intersections of planes, and their weights."""

from onesolid.errors import NotForm
from onesolid.flats import flat_of, in_sequence, is_on_row


def meets_of(dimension, planes):
    """The meets of some planes, in sequence."""
    found = {(): True}
    for plane in planes:
        for flat in list(found):
            meet = flat_of(dimension, flat + (plane,))
            if meet is not None:
                found[meet] = True
    return in_sequence(list(found))


def meet_weights(dimension, planes, flat):
    """The pairs (meet, weight) of all meets in a flat, with the weights from it, in sequence."""
    meets = meets_of(dimension, planes)
    if flat not in meets:
        raise NotForm("meet")
    return weights_from(bits_of_meets(planes, meets), flat)


def bits_of_meets(planes, meets):
    """Pairs of the meets, in turn, and the bits of the planes that contain each."""
    pairs = []
    for meet in meets:
        bits = sum([1 << number for number, plane in enumerate(planes) if is_on_row(meet, plane)])
        pairs.append((meet, bits))
    return pairs


def weights_from(pairs, flat):
    """The pairs (meet, weight) of all meets in one of them, in sequence, given the bits of each."""
    own = dict(pairs)[flat]
    found = []
    # A meet lies in another one exactly if all planes that contain that one contain it.
    for meet, bits in pairs:
        if bits & own == own:
            above = [weight for _, weight, other in found if other & bits == other]
            found.append((meet, -sum(above) if found else 1, bits))
    return tuple([(meet, weight) for meet, weight, _ in found])
