"""Landfast parts and islands of banks."""

from neverpenned.banks import Bank
from neverpenned.cells import SIDES
from neverpenned.components import connected_groups


def landfast(bank):
    """Return the bank with those extra cells that are connected with the shore."""
    return Bank([cell for group in connected_groups(bank.extra, SIDES) if _meets_shore(group) for cell in group])


def islands(bank):
    """Return the islands as ascending lists of cells, in ascending order of their least cells."""
    return [group for group in connected_groups(bank.extra, SIDES) if not _meets_shore(group)]


def _meets_shore(cells):
    """Tell whether one of the cells, which are in ascending order, is a neighbour of the shore."""
    return cells[0][0] == 0
