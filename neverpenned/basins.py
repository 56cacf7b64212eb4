"""Basins: struck cells near the shore, the box around them, and barred cells."""

from neverpenned.boxes import AREA_MOST, Box, bounds, check_area
from neverpenned.cells import are_neighbours, check_cells

BAND = 39
STRUCK_MOST = 36
BARRED_MOST = 300


class Basin:
    """The basin of at most 36 struck and at most 300 barred cells."""

    def __init__(self, struck, barred=()):
        check_cells(struck, STRUCK_MOST)
        check_cells(barred, BARRED_MOST)
        self.struck = tuple(sorted(set(struck)))
        self.barred = tuple(sorted(set(barred)))
        self._blocked = {cell: True for cell in self.barred}
        self._sources = tuple([cell for cell in self.struck if 0 <= cell[0] <= BAND and cell not in self._blocked])
        # A property gives its box away to be changed, so that the corners are kept instead of a box.
        self._corners = _box_corners(self._sources)

    @property
    def sources(self):
        """The tuple of the sources, ascending."""
        return self._sources

    @property
    def box(self):
        """The box, or None for a basin without sources."""
        if self._corners is None:
            return None
        west, south, east, north = self._corners
        return Box(west, south, east, north)

    def rows(self):
        """Return the list of the rows of the box, ascending."""
        if self._corners is None:
            return []
        return list(range(self._corners[1], self._corners[3] + 1))

    def is_open(self, cell):
        """Tell whether the cell, which may be any, is an open cell."""
        if self._corners is None or cell in self._blocked:
            return False
        x, y = cell
        west, south, east, north = self._corners
        return west <= x <= east and south <= y <= north

    def is_exit(self, cell, other):
        """Tell whether the first cell is open and the second is an exit from it; both may be any cells."""
        if not self.is_open(cell) or not are_neighbours(cell, other):
            return False
        return other[0] >= 0 and not self.is_open(other)

    def open_cells(self):
        """Return the list of the open cells, ascending."""
        box = self.box
        if box is None:
            return []
        check_area(box, AREA_MOST)
        return every_open_cell(self)

    def mirrored(self):
        """Return the basin with north and south exchanged."""
        return Basin([(x, -y) for x, y in self.struck], [(x, -y) for x, y in self.barred])


def every_open_cell(basin):
    """Return the list of the open cells, ascending, however large the box is."""
    box = basin.box
    if box is None:
        return []
    rows = basin.rows()
    return [(x, y) for x in range(box.east + 1) for y in rows if basin.is_open((x, y))]


def _box_corners(sources):
    """Return the west, south, east and north of the box for these sources, or None if there are none."""
    if len(sources) == 0:
        return None
    _, south, east, north = bounds(sources)
    return (0, south, east, north)
