"""Regions: finite sets of cells."""

from neverpenned.boxes import Box, bounds
from neverpenned.cells import CELLS_MOST, check_cells, check_offset


class Region:
    """A set of at most 800 cells; only |= and -= change it."""

    def __init__(self, cells=()):
        check_cells(cells, CELLS_MOST)
        self._members = {cell: True for cell in cells}
        self.cells = tuple(sorted(self._members))

    def __len__(self):
        return len(self.cells)

    def __contains__(self, cell):
        return cell in self._members

    def __iter__(self):
        return iter(self.cells)

    def __or__(self, other):
        further = [cell for cell in other.cells if cell not in self]
        return Region([*self.cells, *further])

    def __and__(self, other):
        return Region([cell for cell in self.cells if cell in other])

    def __sub__(self, other):
        return Region([cell for cell in self.cells if cell not in other])

    def __xor__(self, other):
        first = [cell for cell in self.cells if cell not in other]
        second = [cell for cell in other.cells if cell not in self]
        return Region([*first, *second])

    def __ior__(self, other):
        joined = self | other
        self._members = joined._members
        self.cells = joined.cells
        return self

    def __isub__(self, other):
        rest = self - other
        self._members = rest._members
        self.cells = rest.cells
        return self

    def __eq__(self, other):
        return isinstance(other, Region) and self.cells == other.cells

    def inside(self, other):
        """Tell whether every cell of this region is in the region other."""
        return all([cell in other for cell in self.cells])

    @property
    def box(self):
        """The smallest box that contains the region, or None for the empty region."""
        if len(self.cells) == 0:
            return None
        west, south, east, north = bounds(self.cells)
        return Box(west, south, east, north)

    def shifted(self, east, north):
        """Return the region with every cell moved so far to the east and to the north."""
        check_offset(east, north)
        return Region([(x + east, y + north) for x, y in self.cells])

    def image(self, symmetry):
        """Return the region of the cells to which the symmetry takes the cells."""
        return Region([symmetry(cell) for cell in self.cells])
