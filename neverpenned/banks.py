"""Banks: the shore and some more cells."""

from neverpenned.cells import OFFSET_MOST, SIDES, cells_at, check_cells
from neverpenned.checks import check_number
from neverpenned.errors import OnShore

BANK_MOST = 10000


class Bank:
    """The shore, which is all cells with x < 0, and at most 10000 extra cells."""

    def __init__(self, extra=()):
        check_cells(extra, BANK_MOST)
        for cell in extra:
            if cell[0] < 0:
                raise OnShore(cell)
        self._members = {cell: True for cell in extra}
        self.extra = tuple(sorted(self._members))

    @property
    def growth(self):
        """By how much the boundary is longer than that of the shore."""
        sides = [other for cell in self.extra for other in cells_at(cell, SIDES) if other not in self]
        return len(sides) - len([cell for cell in self.extra if cell[0] == 0])

    def __contains__(self, cell):
        return cell[0] < 0 or cell in self._members

    def __or__(self, other):
        return Bank([*self.extra, *[cell for cell in other.extra if cell not in self]])

    def __and__(self, other):
        return Bank([cell for cell in self.extra if cell in other])

    def __eq__(self, other):
        return isinstance(other, Bank) and self.extra == other.extra

    def inside(self, other):
        """Tell whether every cell of this bank is in the bank other."""
        return all([cell in other for cell in self.extra])

    def cut_off(self, box):
        """Return the bank with those of the extra cells that are in the box."""
        return Bank([cell for cell in self.extra if cell in box])

    def shifted(self, north):
        """Return the bank with all extra cells moved so far to the north."""
        check_number(north, -OFFSET_MOST, OFFSET_MOST)
        return Bank([(x, y + north) for x, y in self.extra])

    def mirrored(self):
        """Return the bank with north and south exchanged."""
        return Bank([(x, -y) for x, y in self.extra])
