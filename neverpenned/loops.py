"""Loops: closed walks along edges, and how often they go around the cells."""

from neverpenned.boxes import AREA_MOST, bounds
from neverpenned.cells import check_cell
from neverpenned.checks import check_number
from neverpenned.edges import begin, check_edges, edge_image, end, turned_about
from neverpenned.errors import NotClosed, NotJoined, TooMuch

LOOP_MOST = 2000


class Loop:
    """A list of at most 2000 edges, each of which begins where the edge before it ends."""

    def __init__(self, edges=()):
        check_edges(edges, LOOP_MOST)
        _check_closed(edges)
        self.edges = tuple(edges)

    def __len__(self):
        return len(self.edges)

    def __iter__(self):
        return iter(self.edges)

    def __eq__(self, other):
        return isinstance(other, Loop) and self.edges == other.edges

    def winding(self, cell):
        """Return the winding number of the cell."""
        check_cell(cell)
        x, y = cell
        # For an edge that goes east or west, a and c are the same, so that it does not count.
        return sum([c - a for (a, b), (c, d) in self.edges if b == y and min(a, c) >= x])

    def windings(self):
        """Return a dict with the winding numbers that are not 0, by ascending cells."""
        return summed_windings(self.edges)

    @property
    def area(self):
        """The sum of all winding numbers."""
        # In each row the loop walks north as often as south, so it does not matter from which column one counts.
        return sum([(c - a) * min(a, c) for (a, b), (c, d) in self.edges])

    def __neg__(self):
        return Loop([turned_about(edge) for edge in self.edges[::-1]])

    def __add__(self, other):
        if len(self.edges) > 0 and len(other.edges) > 0 and begin(self.edges[0]) != begin(other.edges[0]):
            raise NotJoined()
        return Loop([*self.edges, *other.edges])

    def image(self, symmetry):
        """Return the loop of the images of the edges, in the same order."""
        return Loop([edge_image(edge, symmetry) for edge in self.edges])

    def begun_at(self, at):
        """Return the loop of the same edges in cyclic order that begins with the edge at this index."""
        check_number(at, 0, len(self.edges) - 1)
        return Loop([*self.edges[at:], *self.edges[:at]])


def summed_windings(edges):
    """Return a dict with the sums that are not 0 of the winding numbers in the loops that the edges form."""
    if len(edges) == 0:
        return {}
    west, south, east, north = bounds([cell for edge in edges for cell in edge])
    if (east - west + 1) * (north - south + 1) > AREA_MOST:
        raise TooMuch(AREA_MOST)
    crossings = _crossings(edges)
    found = {}
    for x in range(east, west - 1, -1):
        for y in range(south, north + 1):
            number = found.get((x + 1, y), 0) + crossings.get((x, y), 0)
            if number != 0:
                found[(x, y)] = number
    return {cell: found[cell] for cell in sorted(found)}


def _crossings(edges):
    """Return how often the edges go north along the east side of each cell, minus how often they go south."""
    crossings = {}
    for (a, b), (c, d) in edges:
        if b == d:
            cell = (min(a, c), b)
            crossings[cell] = crossings.get(cell, 0) + c - a
    return crossings


def _check_closed(edges):
    """Raise NotClosed for the first edge that does not begin where the edge before it ends."""
    for at, edge in enumerate(edges):
        # The index -1 is that of the last edge, which comes before the edge 0.
        if begin(edge) != end(edges[at - 1]):
            raise NotClosed(at)
