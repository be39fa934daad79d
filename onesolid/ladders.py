"""Whether the hulls of two sets have a common point, and ladders, which show that they have none."""

from onesolid.errors import NotPaper, Unlike
from onesolid.laddering import is_ladder_on, ladder_of_steps, parted_or_common, spread_of_point
from onesolid.papers import is_point, is_worded
from onesolid.spreads import spread_of_form

PAPER_FORMS = (("point", 2), ("ladder", 2))


def parted(form, other):
    """("point", point) with a point of the hulls of both sets, or ("ladder", ladder) with a ladder on both."""
    dimension = _common_dimension(form, other)
    point, steps, _ = parted_or_common(dimension, [spread_of_form(form), spread_of_form(other)])
    if point is None:
        return ("ladder", ladder_of_steps(steps))
    return ("point", point)


def _common_dimension(form, other):
    if form[0] != other[0]:
        raise Unlike()
    return form[0]


def is_ladder(form, other, ladder):
    """Whether any value is a ladder on both sets."""
    dimension = _common_dimension(form, other)
    return is_ladder_on(dimension, spread_of_form(form), spread_of_form(other), ladder)


def check_parted(form, other, paper):
    """Whether a paper shows a common point of the hulls, True, or that there is none, False."""
    _common_dimension(form, other)
    if not is_worded(paper, PAPER_FORMS):
        raise NotPaper("form")
    if paper[0] == "ladder":
        if not is_ladder(form, other, paper[1]):
            raise NotPaper("ladder")
        return False
    if not _is_common(form, other, paper[1]):
        raise NotPaper("point")
    return True


def _is_common(form, other, value):
    """Whether any value is a point of the hulls of both sets."""
    if not is_point(form[0], value):
        return False
    spreads = [spread_of_point(value), spread_of_form(form), spread_of_form(other)]
    return parted_or_common(form[0], spreads)[0] is not None
