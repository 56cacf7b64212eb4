"""Boundary edges of a ground, which is a region or a bank, and the steps between them."""

from neverpenned.cells import SIDES, cells_at
from neverpenned.edges import ahead, cells_ahead, check_edge, edge_beside, turned_about
from neverpenned.errors import NotBoundary


def is_boundary(ground, edge):
    """Tell whether the left cell of the edge is in the ground and the right cell is not."""
    check_edge(edge)
    left, right = edge
    return left in ground and right not in ground


def next_edge(ground, edge):
    """Return the next edge of a boundary edge."""
    check_boundary(ground, edge)
    return following_edge(ground, edge)


def following_edge(ground, edge):
    """Return the next edge of any boundary edge, also of one that lies too far away to be passed."""
    left_ahead, right_ahead = cells_ahead(edge)
    letter = _letter(ground, left_ahead, right_ahead)
    return edge_beside(edge, (left_ahead, right_ahead), letter)


def previous_edge(ground, edge):
    """Return the boundary edge whose next edge the edge is."""
    check_boundary(ground, edge)
    right_behind, left_behind = ahead(turned_about(edge))
    letter = _letter(ground, left_behind, right_behind)
    return edge_beside(edge, (left_behind, right_behind), letter)


def step_letter(ground, edge):
    """Return the letter of the step from a boundary edge to the next edge."""
    check_boundary(ground, edge)
    left_ahead, right_ahead = ahead(edge)
    return _letter(ground, left_ahead, right_ahead)


def boundary(region):
    """Return all boundary edges of the region, ascending."""
    edges = [(cell, other) for cell in region.cells for other in cells_at(cell, SIDES) if other not in region]
    return sorted(edges)


def boundary_length(region):
    """Return the number of the boundary edges of the region."""
    return len(boundary(region))


def check_boundary(ground, edge):
    """Raise BadEdge, or NotBoundary if the edge is no boundary edge of the ground."""
    if not is_boundary(ground, edge):
        raise NotBoundary(edge)


def _letter(ground, left_cell, right_cell):
    """Return the letter of the turn, where the cells are those beyond the corner at one end of an edge."""
    if left_cell not in ground:
        return "l"
    if right_cell not in ground:
        return "s"
    return "r"
