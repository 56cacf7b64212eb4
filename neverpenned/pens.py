"""Held pens: where every wall has a pattern struck for the cell of the runner."""

from neverpenned.cells import check_cell, check_cells
from neverpenned.errors import NotPrepared
from neverpenned.patterns import PATTERNS, holds_level, lacking_columns
from neverpenned.walls import (
    HALF_MOST, PEN_MOST, WALLS, cell_in, check_half, check_inside, columns_among, place_of,
)


def is_held(half, cell, struck):
    """Tell whether the pen is held for an inside cell."""
    _check_arguments(half, cell, struck)
    return is_held_among(half, cell, {other: True for other in struck})


def lacking_cells(half, cell, struck):
    """Return the cells that lack for an inside cell, one for each wall that is not held, in the order of the walls."""
    _check_arguments(half, cell, struck)
    return lacking_among(half, cell, {other: True for other in struck})


def is_held_among(half, cell, members):
    """Return what is_held returns, where the dict has the struck cells, without checks."""
    for wall in WALLS:
        level, column = place_of(half, wall, cell)
        # Far from a wall nothing is needed, so that its cells need not be looked at.
        if level <= len(PATTERNS) and not holds_level(level, columns_among(half, wall, column, members)):
            return False
    return True


def lacking_among(half, cell, members):
    """Return what lacking_cells returns, where the dict has the struck cells, without checks."""
    cells = []
    for wall in WALLS:
        level, column = place_of(half, wall, cell)
        if level <= len(PATTERNS):
            lacks = lacking_columns(level, columns_among(half, wall, column, members))
            cells.extend([cell_in(half, wall, column + lack) for lack in lacks])
    return cells


def check_preparation(half, prepared):
    """Raise NotPrepared if only a prepared pen may have this half size."""
    if not prepared and half != HALF_MOST:
        raise NotPrepared(half)


def may_start(half, cell, prepared):
    """Tell whether the runner may start at the cell."""
    if not prepared:
        return cell == (0, 0)
    return max(abs(cell[0]), abs(cell[1])) < half - len(PATTERNS)


def _check_arguments(half, cell, struck):
    """Raise the errors of the arguments of is_held and lacking_cells."""
    check_half(half)
    check_cell(cell)
    check_cells(struck, PEN_MOST)
    check_inside(half, cell)
