"""Which cells of a lot hang together by neighbours: cells of which one is a face of the other."""

from onesolid.grids import lot_of_numbers, numbers_in


def neighbours_of(grid, number):
    """The lot of the neighbours of a cell, also of itself."""
    signs = grid.cells[number]
    return grid.star(signs) | grid.faces(signs)


def part_around(grid, lot, number):
    """The lot of those cells of a lot to which one gets from one of them."""
    return lot_of_numbers(list(ways_from(grid, lot, number)))


def ways_from(grid, lot, number):
    """By the cells of a lot to which one gets from one of them the cell ahead on a shortest way; None of itself."""
    ahead = {number: None}
    left = lot & ~(1 << number)
    layer = [number]
    while layer:
        following = []
        for own in layer:
            fresh = neighbours_of(grid, own) & left
            left &= ~fresh
            for other in numbers_in(fresh):
                ahead[other] = own
                following.append(other)
        layer = following
    return ahead


def parts_in(grid, lot):
    """The parts of a lot, the one with the least cell first."""
    parts = []
    left = lot
    while left != 0:
        # The last digit that is 1 is that of the least cell.
        part = part_around(grid, left, (left & -left).bit_length() - 1)
        parts.append(part)
        left &= ~part
    return parts
