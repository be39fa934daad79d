"""The cells of planes, numbered as their signs ascend, and lots of them: integers with their numbers' bits set."""

from onesolid.cells import cells_of


class Grid:
    """The cells of some planes, with the lots of the cells below, on and above each of the planes."""

    def __init__(self, dimension, planes):
        self.dimension = dimension
        self.planes = planes
        self.cells = cells_of(dimension, planes)
        self.numbers = {signs: number for number, signs in enumerate(self.cells)}
        self.whole = (1 << len(self.cells)) - 1
        self.sides = [_sides(self.cells, place) for place in range(len(planes))]

    def side(self, place, sign):
        """The lot of the cells with a sign at the plane with this number."""
        return self.sides[place][sign + 1]

    def star(self, signs):
        """The lot of the star of a cell; for far signs, of the cells that go on along their directions."""
        lot = self.whole
        for place, sign in enumerate(signs):
            if sign != 0:
                lot &= self.side(place, sign)
        return lot

    def faces(self, signs):
        """The lot of the faces of a cell."""
        lot = self.whole
        for place, sign in enumerate(signs):
            own = self.side(place, 0)
            lot &= own if sign == 0 else own | self.side(place, sign)
        return lot

    def lot_of(self, cells):
        """The lot of some cells, told by their signs."""
        return lot_of_numbers([self.numbers[signs] for signs in cells])

    def cells_in(self, lot):
        """The signs of the cells of a lot, ascending."""
        return [self.cells[number] for number in numbers_in(lot)]


def _sides(cells, place):
    lots = [0, 0, 0]
    for number, signs in enumerate(cells):
        lots[signs[place] + 1] |= 1 << number
    return lots


def numbers_in(lot):
    """The numbers of the cells of a lot, ascending."""
    return [number for number, digit in enumerate(f"{lot:b}"[::-1]) if digit == "1"]


def lot_of_numbers(numbers):
    """The lot of the cells with some numbers."""
    lot = 0
    for number in numbers:
        lot |= 1 << number
    return lot


def grid_of(form):
    """The grid of the planes of a form, and the lot of its cells."""
    dimension, planes, cells = form
    grid = Grid(dimension, planes)
    return grid, grid.lot_of(cells)


def zero_places(signs):
    """The places of the planes with the sign 0."""
    return tuple([place for place, sign in enumerate(signs) if sign == 0])


def at_places(things, places):
    """Those of some things that stand at some places."""
    return tuple([things[place] for place in places])
