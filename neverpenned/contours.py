"""Contours: the loops of the boundary edges of a region."""

from neverpenned.boundaries import boundary, check_boundary, next_edge
from neverpenned.loops import Loop


def contours(region):
    """Return the contours, each beginning with its least edge, in ascending order of these edges."""
    seen = {}
    found = []
    # In ascending order, the first edge of a contour that is not seen yet is its least one.
    for edge in boundary(region):
        if edge not in seen:
            contour = contour_through(region, edge)
            found.append(contour)
            for member in contour.edges:
                seen[member] = True
    return found


def contour_through(region, edge):
    """Return the contour that the edge belongs to, beginning with this edge."""
    check_boundary(region, edge)
    edges = [edge]
    following = next_edge(region, edge)
    while following != edge:
        edges.append(following)
        following = next_edge(region, following)
    return Loop(edges)
