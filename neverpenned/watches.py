"""Facts about a bank runner, looked up for a given one."""

from neverpenned.banks import Bank
from neverpenned.basins import BAND
from neverpenned.boundaries import is_boundary, next_edge
from neverpenned.cells import CELLS_MOST, check_cells
from neverpenned.checks import check_number
from neverpenned.errors import BadNumber, NotAllowed


def struck_ahead(runner, many):
    """Return those right cells of the next edges ahead, so many, that are struck, in the order of the edges."""
    edges = runner.edges_ahead(many)
    struck = {cell: True for cell in runner.struck_by(runner.turn)}
    return [right for _, right in edges if right in struck]


def trail_stands(runner):
    """Tell whether the trail is a walk along the boundary of the latest bank."""
    bank = runner.bank_at(runner.turn)
    trail = runner.trail()
    if not all([is_boundary(bank, edge) for edge in trail]):
        return False
    return all([next_edge(bank, trail[at]) == trail[at + 1] for at in range(len(trail) - 1)])


def growth_gap(runner, early, late, cells):
    """Return by how much these cells make the growth of the bank of the turn `late` greater, and a number of strikes.

    The strikes are those after the turn `early` up to `late` that hit the bank of `late`, but not that of `early`.
    """
    check_number(early, 1, runner.turn)
    check_number(late, 1, runner.turn)
    check_cells(cells, CELLS_MOST)
    if late < early:
        raise BadNumber(late)
    barred = {cell: True for cell in runner.barred_at(early)}
    for cell in cells:
        if cell in barred or cell[0] > BAND:
            raise NotAllowed(cell)
    first = runner.bank_at(early)
    bank = runner.bank_at(late)
    greater = bank | Bank([cell for cell in cells if cell[0] >= 0])
    strikes = [cell for cell in runner.struck_by(late)[early:] if cell in bank and cell not in first]
    return (greater.growth - bank.growth, len(strikes))
