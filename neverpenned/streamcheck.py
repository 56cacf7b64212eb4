"""Checks of sets of streams that come from anywhere."""

from neverpenned.cells import are_neighbours
from neverpenned.checks import check_length
from neverpenned.cuts import CUT_MOST, size_of_open
from neverpenned.errors import TooMany

STREAMS_MOST = 400
STREAM_CELLS_MOST = 25000
SHORE_STREAMS_MOST = 1
SOURCE_STREAMS_MOST = 2


def first_fault(basin, streams):
    """Return None for a valid set of streams, otherwise the index of the first stream that spoils it."""
    check_streams(streams)
    return find_fault(basin, streams)


def is_full(basin, streams, cells):
    """Tell whether the streams are valid, the cells are open, and there are as many streams as this cut has size."""
    check_streams(streams)
    check_length(cells, CUT_MOST)
    if find_fault(basin, streams) is not None:
        return False
    if not all([basin.is_open(cell) for cell in cells]):
        return False
    return len(streams) == size_of_open(basin, cells)


def check_streams(streams):
    """Raise TooMany if there are too many streams, or if they have too many cells together."""
    check_length(streams, STREAMS_MOST)
    if sum([len(cells) for cells in streams]) > STREAM_CELLS_MOST:
        raise TooMany(STREAM_CELLS_MOST)


def find_fault(basin, streams):
    """Return what first_fault returns, however many streams there are."""
    most = _firsts(basin)
    begun = {}
    passed = {}
    for at, cells in enumerate(streams):
        if not _is_stream(basin, cells, most):
            return at
        first = cells[0]
        begun[first] = begun.get(first, 0) + 1
        if begun[first] > most[first]:
            return at
        for side in _sides_passed(cells):
            if side in passed:
                return at
            passed[side] = True
    return None


def _firsts(basin):
    """Return a dict with the cells at which streams may begin, and how many may begin there at most."""
    firsts = {(-1, y): SHORE_STREAMS_MOST for y in basin.rows()}
    for source in basin.sources:
        firsts[source] = SOURCE_STREAMS_MOST
    return firsts


def _is_stream(basin, cells, firsts):
    """Tell whether the list of cells is a stream, where the dict has the cells at which it may begin."""
    if len(cells) < 2 or cells[0] not in firsts:
        return False
    if not all([are_neighbours(cells[at], cells[at + 1]) for at in range(len(cells) - 1)]):
        return False
    if not all([basin.is_open(cell) for cell in cells[1:-1]]):
        return False
    return basin.is_exit(cells[-2], cells[-1]) or _is_turned_away(basin, cells)


def _is_turned_away(basin, cells):
    """Tell whether the cells, which begin well, are one of the shore and the barred cell behind it."""
    # The row of a first cell is one of the box, so that a cell (0, y) that is not open is barred.
    return len(cells) == 2 and cells[0][0] < 0 and cells[1][0] == 0 and not basin.is_open(cells[1])


def _sides_passed(cells):
    """Return the sides that the stream passes, each as the tuple of the lesser and the greater cell."""
    return [(min(cells[at], cells[at + 1]), max(cells[at], cells[at + 1])) for at in range(len(cells) - 1)]
