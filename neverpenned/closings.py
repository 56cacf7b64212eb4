"""Closing a walk around the cell on its right hand."""

from neverpenned.cells import cells_at
from neverpenned.checks import check_number
from neverpenned.edges import check_edge, check_edges
from neverpenned.errors import BadNumber, NotSame
from neverpenned.loops import Loop

STRETCH_MOST = 1000

# The steps to the western, northern, eastern and southern neighbour.
CLOCKWISE = ((-1, 0), (0, 1), (1, 0), (0, -1))


def closing(last, first):
    """Return the edges, clockwise, of the common right cell that come after `last` and before `first`."""
    check_edge(last)
    check_edge(first)
    if last[1] != first[1]:
        raise NotSame()
    cell = last[1]
    around = [(left, cell) for left in cells_at(cell, CLOCKWISE)]
    at = around.index(last)
    others = [*around[at + 1:], *around[:at]]
    if first == last:
        return others
    return others[:others.index(first)]


def closed_stretch(edges, first, last):
    """Return the loop of the edges with the indexes from `first` to `last` and of their closing."""
    check_edges(edges, STRETCH_MOST)
    check_number(first, 0, len(edges) - 1)
    check_number(last, 0, len(edges) - 1)
    if last < first:
        raise BadNumber(last)
    # The loop refuses the edges of a closing that lie too far away; those of the list are checked already.
    return Loop([*edges[first:last + 1], *closing(edges[last], edges[first])])
