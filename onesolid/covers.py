"""Sets as unions of few convex parts, each a lot of cells that some signs tell."""

# Which signs a part may have at a plane, the most first, if a cell that it is to hold has this sign there.
CHOICES = {
    -1: ((-1, 0, 1), (-1, 0), (-1,)),
    0: ((-1, 0, 1), (-1, 0), (0, 1), (0,)),
    1: ((-1, 0, 1), (0, 1), (1,)),
}


def convex_parts(grid, lot):
    """Lots of cells, each of them convex, the union of which is the lot."""
    parts = []
    left = lot
    # Cells with few signs 0 first, as their parts hold many others.
    for signs in sorted(grid.cells_in(lot), key=lambda cell: cell.count(0)):
        if (left >> grid.numbers[signs]) & 1 == 1:
            part = _part_with(grid, lot, signs)
            parts.append(part)
            left &= ~part
    return parts


def _part_with(grid, lot, signs):
    """A convex part of a lot, as great as taking plane after plane makes it, that holds a cell."""
    part = grid.whole
    # The lots of the cell's own sides at the planes that are still to be taken.
    ahead = [grid.whole]
    for place in reversed(range(len(signs))):
        ahead.append(ahead[-1] & grid.side(place, signs[place]))
    for place, sign in enumerate(signs):
        ahead.pop()
        for choice in CHOICES[sign]:
            side = sum([grid.side(place, allowed) for allowed in choice])
            if part & side & ahead[-1] & ~lot == 0:
                part &= side
                break
    return part
