"""Cuts of a basin."""

from neverpenned.cells import SIDES, cells_at, check_cells
from neverpenned.errors import NotOpen, TooMuch

CUT_MOST = 10000
OPEN_MOST = 10


def cut_size(basin, cells):
    """Return the size of the cut that has these cells."""
    check_cells(cells, CUT_MOST)
    for cell in cells:
        if not basin.is_open(cell):
            raise NotOpen(cell)
    return _size(basin, cells)


def least_cuts(basin):
    """Return the list of all least cuts, tried one by one, in ascending order."""
    _check_open_count(basin)
    cells = basin.open_cells()
    cuts = [_chosen(cells, code) for code in range(1 << len(cells))]
    sizes = [_size(basin, cut) for cut in cuts]
    least = min(sizes)
    return sorted([cut for cut, size in zip(cuts, sizes) if size == least])


def _size(basin, cells):
    """Return the size of the cut that has these open cells."""
    members = {cell: True for cell in cells}
    rows = [y for y in basin.rows() if (0, y) not in members]
    sides = [other for cell in members for other in cells_at(cell, SIDES) if other[0] >= 0 and other not in members]
    sources = [cell for cell in basin.sources if cell not in members]
    return len(rows) + len(sides) + 2 * len(sources)


def _chosen(cells, code):
    """Return the tuple of the cells whose bits are set in the code."""
    return tuple([cell for at, cell in enumerate(cells) if code >> at & 1])


def _check_open_count(basin):
    """Raise TooMuch if the basin has too many open cells, however large its box is."""
    box = basin.box
    if box is not None and box.area - len([cell for cell in basin.barred if cell in box]) > OPEN_MOST:
        raise TooMuch(OPEN_MOST)
