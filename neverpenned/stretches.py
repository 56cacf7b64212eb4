"""Stretches of the walk of a bank runner, and what they enclose."""

from neverpenned.cells import REACH, check_cell
from neverpenned.checks import check_number
from neverpenned.closings import closed_stretch
from neverpenned.errors import BadNumber
from neverpenned.walks import AHEAD_MOST, start_edge


def walk_part(runner, first, last):
    """Return the edges of the walk with the numbers from `first` to `last`."""
    check_number(first, -REACH, _greatest_number(runner))
    check_number(last, -REACH, _greatest_number(runner))
    if last < first:
        raise BadNumber(last)
    return _walk_up_to(runner, last)[first + REACH:]


def visits(runner, cell, last):
    """Return the numbers up to `last` of the edges of the walk that have the cell as their right cell."""
    check_cell(cell)
    check_number(last, 0, _greatest_number(runner))
    return [at - REACH for at, edge in enumerate(_walk_up_to(runner, last)) if edge[1] == cell]


def enclosed(runner, cell, last):
    """Return the cells, ascending, around which the walk goes between the first and the last of these visits."""
    numbers = visits(runner, cell, last)
    if len(numbers) < 2:
        return []
    edges = walk_part(runner, numbers[0], numbers[-1])
    return list(closed_stretch(edges, 0, len(edges) - 1).windings())


def _greatest_number(runner):
    """Return the greatest number of an edge that may be asked for."""
    return runner.marks[-1] + AHEAD_MOST


def _walk_up_to(runner, last):
    """Return the edges of the walk with the numbers from -REACH to `last`."""
    edges = [start_edge(number) for number in range(-REACH, 0)]
    edges.extend(list(runner.trail()))
    edges.extend(list(runner.edges_ahead(max(last - runner.marks[-1], 0))))
    return edges[:last + REACH + 1]
