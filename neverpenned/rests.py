"""Rest steps: where streams could still go, and what these steps tell about the streams."""

from neverpenned.basins import every_open_cell
from neverpenned.cells import SIDES, are_neighbours, cells_at, check_cell, check_cells
from neverpenned.cuts import CUT_MOST
from neverpenned.errors import BadStreams, NotOpen
from neverpenned.streamcheck import SOURCE_STREAMS_MOST, check_streams, find_fault


class Rest:
    """The rest steps for a valid set of streams of a basin."""

    def __init__(self, basin, streams):
        check_streams(streams)
        fault = find_fault(basin, streams)
        if fault is not None:
            raise BadStreams(fault)
        self._basin = basin
        self._passed = passed_steps(streams)
        self._leaking = ways_to_exits(basin, self._passed)
        begun = first_counts(streams)
        self._fed = reached_cells(basin, self._passed, fed_at_once(basin, begun))
        self._shore_served = all([(-1, y) in begun for y in basin.rows() if not basin.is_open((0, y))])

    def may_step(self, cell, other):
        """Tell whether a rest step leads from the cell to the other one; both may be any cells."""
        return is_rest_step(self._basin, self._passed, cell, other)

    def reached(self, cells):
        """Return the open cells, ascending, to which rest steps lead from these open cells; these are included."""
        check_cells(cells, CUT_MOST)
        for cell in cells:
            if not self._basin.is_open(cell):
                raise NotOpen(cell)
        return reached_cells(self._basin, self._passed, cells)

    def leaks(self, cell):
        """Tell whether rest steps lead from the cell to an exit."""
        check_cell(cell)
        return cell in self._leaking

    @property
    def fed(self):
        """The list of the fed cells, ascending."""
        return list(self._fed)

    @property
    def full(self):
        """True if the streams are full, otherwise False."""
        return self._shore_served and not any([cell in self._leaking for cell in self._fed])


def passed_steps(streams):
    """Return a dict with the steps (cell, next cell) of all streams."""
    return {(cells[at], cells[at + 1]): True for cells in streams for at in range(len(cells) - 1)}


def first_counts(streams):
    """Return a dict with the first cells of the streams and the number of streams that begin at each of them."""
    counts = {}
    for cells in streams:
        counts[cells[0]] = counts.get(cells[0], 0) + 1
    return counts


def is_rest_step(basin, passed, cell, other):
    """Tell whether a rest step leads from the cell to the other one, where `passed` has the steps of the streams."""
    # A neighbour of an open cell is open or an exit, or else it is on the shore.
    return basin.is_open(cell) and are_neighbours(cell, other) and other[0] >= 0 and (cell, other) not in passed


def fed_at_once(basin, begun):
    """Return the cells that are fed without a rest step, where `begun` counts the first cells of the streams."""
    cells = [source for source in basin.sources if begun.get(source, 0) < SOURCE_STREAMS_MOST]
    cells.extend([(0, y) for y in basin.rows() if basin.is_open((0, y)) and (-1, y) not in begun])
    return cells


def reached_cells(basin, passed, cells):
    """Return the open cells, ascending, to which rest steps lead from these open cells."""
    return sorted(cells_before(basin, passed, cells))


def cells_before(basin, passed, cells):
    """Return a dict with the cells to which rest steps lead from these open cells, in the order of the search.

    For each of them it has the cell from which it was reached, and None for those with which the search begins.
    """
    found = {cell: None for cell in cells}
    waiting = list(found)
    while waiting:
        reached = []
        for cell in waiting:
            for other in cells_at(cell, SIDES):
                if other not in found and (cell, other) not in passed and basin.is_open(other):
                    found[other] = cell
                    reached.append(other)
        waiting = list(reached)
    return found


def ways_to_exits(basin, passed):
    """Return a dict with the cells that leak, those that are nearer to an exit first.

    For each of them it has the next cell on a shortest way to an exit, which may be the exit itself.
    """
    found = {}
    for cell in every_open_cell(basin):
        for other in cells_at(cell, SIDES):
            if (cell, other) not in passed and basin.is_exit(cell, other):
                found[cell] = other
    waiting = list(found)
    while waiting:
        reached = []
        for cell in waiting:
            for other in cells_at(cell, SIDES):
                if other not in found and (other, cell) not in passed and basin.is_open(other):
                    found[other] = cell
                    reached.append(other)
        waiting = list(reached)
    return found
