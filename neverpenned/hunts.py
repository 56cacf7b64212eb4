"""Hunts: breakers that strike by wishes against a bank runner."""

from neverpenned.cells import REACH
from neverpenned.checks import check_length, check_number
from neverpenned.errors import TooMany
from neverpenned.runners import BankRunner

# How far from the runner cells may be wished, and the number of the columns and of the rows of these cells.
SPAN = 12
WIDTH = 25
WISH_MOST = 624


def wished_strike(runner, wish):
    """Return the cell that the wish makes the breaker strike."""
    check_number(wish, 0, WISH_MOST)
    x, y = runner.cell
    quotient, remainder = divmod(wish, WIDTH)
    cell = (x + remainder - SPAN, y + quotient - SPAN)
    if _may_be_struck(runner, cell):
        return cell
    offsets = range(-SPAN, SPAN + 1)
    near = [(x + east, y + north) for east in offsets for north in offsets]
    # These are more cells than may be struck in all turns.
    return [other for other in near if _may_be_struck(runner, other)][0]


def hunt(runner, wishes):
    """Return a new bank runner that has played on, one turn for each wish."""
    check_length(wishes, BankRunner.MOST)
    for wish in wishes:
        check_number(wish, 0, WISH_MOST)
    if runner.turn + len(wishes) > BankRunner.MOST:
        raise TooMany(BankRunner.MOST)
    hunted = runner.copy()
    for wish in wishes:
        hunted.strike(wished_strike(hunted, wish))
    return hunted


def _may_be_struck(runner, cell):
    """Tell whether the cell, which may be any, is within the reach, not struck, and not the cell of the runner."""
    return max(abs(cell[0]), abs(cell[1])) <= REACH and cell != runner.cell and cell not in runner.struck
