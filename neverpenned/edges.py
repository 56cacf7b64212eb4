"""Edges: sides between neighbouring cells, walked in one direction."""

from neverpenned.cells import SIDES, are_neighbours
from neverpenned.checks import check_length, check_number
from neverpenned.errors import BadEdge, BadName
from neverpenned.symmetries import cell_image

EDGE_REACH = 121
CORNER_MOST = 122


def check_edge(edge):
    """Raise BadEdge if the edge is not between two neighbouring cells with coordinates from -121 to 121."""
    (a, b), (c, d) = edge
    if min(a, b, c, d) < -EDGE_REACH or max(a, b, c, d) > EDGE_REACH:
        raise BadEdge(edge)
    if not are_neighbours((a, b), (c, d)):
        raise BadEdge(edge)


def check_edges(edges, most):
    """Raise TooMany if the list is longer than most, then BadEdge for its first edge that is refused."""
    check_length(edges, most)
    for edge in edges:
        check_edge(edge)


def heading(edge):
    """Return the direction in which the edge is walked."""
    check_edge(edge)
    return heading_of(edge)


def heading_of(edge):
    """Return the heading of any edge, also of one that lies too far away to be passed."""
    (a, b), (c, d) = edge
    # The step from left to right, a quarter turn counterclockwise.
    return (b - d, c - a)


def ahead(edge):
    """Return the cells ahead of the left and of the right cell."""
    check_edge(edge)
    return cells_ahead(edge)


def cells_ahead(edge):
    """Return the cells ahead of any edge, also of one that lies too far away to be passed."""
    east, north = heading_of(edge)
    (a, b), (c, d) = edge
    return ((a + east, b + north), (c + east, d + north))


def edge_beside(edge, cells, letter):
    """Return the edge to which the letter leads, where the cells are those beyond the corner at one end."""
    left, right = edge
    left_cell, right_cell = cells
    if letter == "l":
        return (left, left_cell)
    if letter == "s":
        return (left_cell, right_cell)
    return (right_cell, right)


def turned_about(edge):
    """Return the edge turned about."""
    check_edge(edge)
    left, right = edge
    return (right, left)


def begin(edge):
    """Return the corner at which the edge begins."""
    east, north = heading(edge)
    (a, b), (c, d) = edge
    # The side's own south or west end is the corner of its north or east cell;
    # an edge that goes west or south begins at the other end.
    return (max(a, c) - min(east, 0), max(b, d) - min(north, 0))


def end(edge):
    """Return the corner at which the edge ends."""
    east, north = heading(edge)
    x, y = begin(edge)
    return (x + east, y + north)


def edge_from(corner, heading):
    """Return the edge that begins at the corner and has this heading."""
    x, y = corner
    check_number(x, -EDGE_REACH, CORNER_MOST)
    check_number(y, -EDGE_REACH, CORNER_MOST)
    if heading not in SIDES:
        raise BadName(heading)
    # The four cells at the corner, clockwise; each heading has one of them on its left and the next on its right.
    cells = ((x, y), (x, y - 1), (x - 1, y - 1), (x - 1, y))
    left = -SIDES.index(heading) % 4
    edge = (cells[left], cells[(left + 1) % 4])
    check_edge(edge)
    return edge


def edge_image(edge, symmetry):
    """Return the edge to which the symmetry takes the edge."""
    check_edge(edge)
    # A symmetry that is called refuses the cells just beyond the reach, which an edge may have.
    left, right = [cell_image(symmetry.code, cell) for cell in edge]
    if symmetry.mirrors:
        return (right, left)
    return (left, right)
