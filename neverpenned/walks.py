"""Walks along the boundary of a ground, which is a region or a bank."""

from neverpenned.boundaries import check_boundary, following_edge
from neverpenned.cells import REACH
from neverpenned.checks import check_number
from neverpenned.edges import check_edge

AHEAD_MOST = 400


def start_edge(number):
    """Return the edge with this number of a walk that begins along the shore."""
    check_number(number, -REACH, 0)
    return ((-1, number), (0, number))


def ahead_edges(ground, edge, many):
    """Return the list of the next edges after a boundary edge, each the next edge of the one before."""
    check_edge(edge)
    check_number(many, 0, AHEAD_MOST)
    check_boundary(ground, edge)
    edges = []
    reached = edge
    for _ in range(many):
        reached = following_edge(ground, reached)
        edges.append(reached)
    return edges


def landing_steps(ground, edge):
    """Return the number of steps, at least two, to the first edge with another right cell, or None without any."""
    check_boundary(ground, edge)
    reached = following_edge(ground, edge)
    steps = 1
    while steps < 2 or reached[1] == edge[1]:
        if reached == edge:
            return None
        reached = following_edge(ground, reached)
        steps += 1
    return steps


def passed_edges(bank, edge):
    """Return the edges that a bank runner passes in a turn from its edge on, where the bank is the new one."""
    return ahead_edges(bank, edge, landing_steps(bank, edge))


def barred_cells(trail):
    """Return the barred cells within the reach, ascending, where the list has the edges of the trail from 0 on."""
    return sorted(set([*[(0, y) for y in range(-REACH, 0)], *[right for _, right in trail]]))
