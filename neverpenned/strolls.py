"""Strolls: games between a pen breaker and a runner that goes by a list of wishes."""

from neverpenned.cells import touching
from neverpenned.checks import check_length, check_number
from neverpenned.phases import MOVE, PENNED, STRIKE

WISHES_MOST = 1000
WAYS = 8
STROLL_MOST = 18000


def stroll(breaker, wishes, most):
    """Play on with a copy of the breaker; return the cells of the runner, the new strikes and the copy."""
    check_length(wishes, WISHES_MOST)
    for wish in wishes:
        check_number(wish, 0, WAYS - 1)
    check_number(most, 0, STROLL_MOST)
    played = breaker.copy()
    cells = [played.cell]
    strikes = []
    while played.phase != PENNED and len(cells) <= most:
        if played.phase == STRIKE:
            strikes.append(played.strike())
        if played.phase == MOVE:
            played.move(_wished_step(played, _wish_at(wishes, len(cells) - 1)))
            cells.append(played.cell)
    return (cells, strikes, played)


def _wish_at(wishes, at):
    """Return the number for the move with this index, where the list begins again after its end."""
    return wishes[at % len(wishes)] if len(wishes) > 0 else 0


def _wished_step(breaker, wish):
    """Return the first cell that is not struck of those around the runner, beginning with the one at the index."""
    around = touching(breaker.cell)
    # In the phase in which the runner moves there is at least one.
    return [cell for cell in [*around[wish:], *around[:wish]] if not breaker.is_struck(cell)][0]
