"""Boxes: rectangles of cells."""

from neverpenned.cells import CELLS_MOST, REACH, check_cells
from neverpenned.checks import check_number
from neverpenned.errors import EmptyBox, NoCells, TooMuch

AREA_MOST = 5000
GROWTH_MOST = 20


class Box:
    """All cells from the west to the east column and from the south to the north row, both included."""

    def __init__(self, west, south, east, north):
        check_number(west, -REACH, REACH)
        check_number(south, -REACH, REACH)
        check_number(east, -REACH, REACH)
        check_number(north, -REACH, REACH)
        if west > east or south > north:
            raise EmptyBox()
        self.west = west
        self.south = south
        self.east = east
        self.north = north

    @classmethod
    def around(cls, cells):
        """Return the smallest box that contains all cells of the list."""
        check_cells(cells, CELLS_MOST)
        if len(cells) == 0:
            raise NoCells()
        west, south, east, north = bounds(cells)
        return cls(west, south, east, north)

    @property
    def width(self):
        """The number of columns."""
        return self.east - self.west + 1

    @property
    def height(self):
        """The number of rows."""
        return self.north - self.south + 1

    @property
    def area(self):
        """The number of cells."""
        return self.width * self.height

    def __contains__(self, cell):
        x, y = cell
        return self.west <= x <= self.east and self.south <= y <= self.north

    def __and__(self, other):
        west = max(self.west, other.west)
        south = max(self.south, other.south)
        east = min(self.east, other.east)
        north = min(self.north, other.north)
        if west > east or south > north:
            return None
        return Box(west, south, east, north)

    def __or__(self, other):
        west = min(self.west, other.west)
        south = min(self.south, other.south)
        east = max(self.east, other.east)
        north = max(self.north, other.north)
        return Box(west, south, east, north)

    def __eq__(self, other):
        return (isinstance(other, Box) and self.west == other.west and self.south == other.south
                and self.east == other.east and self.north == other.north)

    def inside(self, other):
        """Tell whether every cell of this box is in the box other."""
        return (self.west, self.south) in other and (self.east, self.north) in other

    def grown(self, by):
        """Return the box with so many more columns and rows on all four sides, as far as the reach allows."""
        check_number(by, 0, GROWTH_MOST)
        west = max(self.west - by, -REACH)
        south = max(self.south - by, -REACH)
        east = min(self.east + by, REACH)
        north = min(self.north + by, REACH)
        return Box(west, south, east, north)

    def all_cells(self):
        """Return the list of the cells, ascending."""
        check_area(self, AREA_MOST)
        rows = range(self.south, self.north + 1)
        return [(x, y) for x in range(self.west, self.east + 1) for y in rows]


def bounds(cells):
    """Return the least and the greatest coordinates of at least one cell: west, south, east, north."""
    columns = [cell[0] for cell in cells]
    rows = [cell[1] for cell in cells]
    return (min(columns), min(rows), max(columns), max(rows))


def check_area(box, most):
    """Raise TooMuch if the box has more than most cells."""
    if box.area > most:
        raise TooMuch(most)
