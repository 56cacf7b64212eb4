"""The least best bank for struck and barred cells."""

from neverpenned.banks import Bank
from neverpenned.basins import BAND, BARRED_MOST, Basin
from neverpenned.cells import check_cells
from neverpenned.flows import Flow


def is_allowed(bank, barred):
    """Tell whether no extra cell of the bank is barred or lies beyond the band."""
    check_cells(barred, BARRED_MOST)
    blocked = {cell: True for cell in barred}
    return all([cell[0] <= BAND and cell not in blocked for cell in bank.extra])


def best_bank(struck, barred=()):
    """Return the best bank that is inside all best banks."""
    basin = Basin(struck, barred)
    if basin.box is None:
        return Bank()
    # The best banks are the least cuts that have all sources which do not leak. (The cells that do not leak are the
    # greatest least cut.) The least one of them has just the cells to which rest steps lead from these sources.
    return Bank(Flow(basin).closed_cells())
