"""Cuts of a basin."""

from neverpenned.cells import SIDES, cells_at, check_cells
from neverpenned.errors import NotOpen, TooMuch

CUT_MOST = 10000
OPEN_MOST = 10


def cut_size(basin, cells):
    """Return the size of the cut that has these cells."""
    check_cells(cells, CUT_MOST)
    for cell in cells:
        if not basin.is_open(cell):
            raise NotOpen(cell)
    return size_of_open(basin, cells)


def least_cuts(basin):
    """Return the list of all least cuts, tried one by one, in ascending order."""
    cuts = open_lots(basin)
    sizes = [size_of_open(basin, cut) for cut in cuts]
    least = min(sizes)
    return sorted([cut for cut, size in zip(cuts, sizes) if size == least])


def size_of_open(basin, cells):
    """Return the size of the cut that has these cells, which are open."""
    members = {cell: True for cell in cells}
    rows = [y for y in basin.rows() if (0, y) not in members]
    sides = [other for cell in members for other in cells_at(cell, SIDES) if other[0] >= 0 and other not in members]
    sources = [cell for cell in basin.sources if cell not in members]
    return len(rows) + len(sides) + 2 * len(sources)


def open_lots(basin):
    """Return all lots of open cells, each an ascending tuple; raise TooMuch if the basin has too many open cells."""
    box = basin.box
    # Barred cells are counted instead of open ones, since open_cells refuses large boxes, which may be full of them.
    if box is not None and box.area - len([cell for cell in basin.barred if cell in box]) > OPEN_MOST:
        raise TooMuch(OPEN_MOST)
    cells = basin.open_cells()
    return [_chosen(cells, code) for code in range(1 << len(cells))]


def _chosen(cells, code):
    """Return the tuple of the cells whose bits are set in the code."""
    return tuple([cell for at, cell in enumerate(cells) if code >> at & 1])
