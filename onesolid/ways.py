"""Ways from one point of a set to another one within it, and what shows that there is none."""

from onesolid.canon import in_dict
from onesolid.errors import NotPaper
from onesolid.forms import are_cells, is_ascending
from onesolid.grids import grid_of, lot_of_numbers, numbers_in
from onesolid.hanging import neighbours_of, part_around, ways_from
from onesolid.papers import is_point, is_worded
from onesolid.parts import number_in
from onesolid.points import check_point
from onesolid.spreads import inner_points
from onesolid.walks import is_segment_in


def same_part(form, point, other):
    """Whether two points of a set belong to one part of it."""
    grid, lot, number, far = _placed(form, point, other)
    return (part_around(grid, lot, number) >> far) & 1 == 1


def _placed(form, point, other):
    """The grid and the lot of a set, and the numbers of the cells of two points of it, told by any values."""
    check_point(form[0], point)
    check_point(form[0], other)
    grid, lot = grid_of(form)
    return grid, lot, number_in(grid, lot, point), number_in(grid, lot, other)


def way_paper(form, point, other):
    """("way", points) from one point of a set to another one, or ("apart", cells) of the part of the first one."""
    grid, lot, number, far = _placed(form, point, other)
    ahead = ways_from(grid, lot, number)
    if far not in ahead:
        return ("apart", tuple(grid.cells_in(lot_of_numbers(list(ahead)))))
    between = []
    own = ahead[far]
    while own is not None and own != number:
        between.append(own)
        own = ahead[own]
    points = inner_points(grid, lot_of_numbers(between))
    return ("way", (point,) + tuple([points[own] for own in reversed(between)]) + (other,))


def check_way(form, point, other, paper):
    """The first word of any value that is a paper on two points of a set."""
    grid, lot, number, far = _placed(form, point, other)
    if not is_worded(paper, (("way", 2), ("apart", 2))):
        raise NotPaper("form")
    if paper[0] == "way":
        if not _is_way(form, point, other, paper[1]):
            raise NotPaper("way")
    elif not _keeps_apart(grid, lot, number, far, paper[1]):
        raise NotPaper("apart")
    return paper[0]


def _is_way(form, point, other, value):
    """Whether any value is a tuple of points, the first and the last one told, with segments within a set."""
    if not isinstance(value, tuple) or not value or not all([is_point(form[0], thing) for thing in value]):
        return False
    if value[0] != point or value[-1] != other:
        return False
    cells = in_dict(form[2])
    return all([is_segment_in(form[1], cells, near, far) for near, far in zip(value, value[1:])])


def _keeps_apart(grid, lot, number, far, value):
    """Whether any value is ascending cells of a lot, one of two told among them, without neighbours in the lot."""
    if not are_cells(grid, value) or not is_ascending(value):
        return False
    own = grid.lot_of(value)
    if own & ~lot != 0 or (own >> number) & 1 == 0 or (own >> far) & 1 == 1:
        return False
    return all([neighbours_of(grid, inside) & lot & ~own == 0 for inside in numbers_in(own)])
