"""Plans for small boards: what the breaker or the runner does in each position, so that it succeeds."""

from neverpenned.cells import check_cell
from neverpenned.checks import check_length
from neverpenned.smallboards import (
    SmallBoard, best_landing, best_strike, check_places, check_small, position_after, rank_table,
)

PLAN_MOST = 4000


def breaker_plan(board, ways_out, power, start):
    """Return a right plan of the breaker, or None if there is none."""
    small = _checked_board(board, ways_out, power, start)
    ranked = rank_table(small)
    if ranked[((), start)] is None:
        return None
    plan = {}
    waiting = [((), start)]
    while waiting:
        position = waiting.pop()
        # A position of rank 0 has no free cell, and needs no strike.
        if position not in plan and ranked[position] > 0:
            strike = best_strike(small, ranked, position)
            plan[position] = strike
            waiting.extend([position_after(position, strike, landing) for landing in small.landings(position, strike)])
    return plan


def runner_plan(board, ways_out, power, start):
    """Return a right plan of the runner, or None if there is none."""
    small = _checked_board(board, ways_out, power, start)
    ranked = rank_table(small)
    if ranked[((), start)] is not None:
        return None
    plan = {}
    waiting = [((), start)]
    while waiting:
        position = waiting.pop()
        for strike in small.free_cells(position):
            landing = best_landing(small, ranked, position, strike)
            key = (*position, strike)
            if key not in plan and not small.is_out(landing):
                waiting.append(position_after(position, strike, landing))
            plan[key] = landing
    return plan


def judge_breaker(board, ways_out, power, start, plan):
    """Tell whether the plan is a right plan of the breaker."""
    small = _checked_board(board, ways_out, power, start, plan)
    if not _has_answer(small, plan, ((), start)):
        return False
    for position in plan:
        if not small.is_position(position) or plan[position] not in small.free_cells(position):
            return False
        for landing in small.landings(position, plan[position]):
            after = position_after(position, plan[position], landing)
            if small.is_out(landing) or not _has_answer(small, plan, after):
                return False
    return True


def judge_runner(board, ways_out, power, start, plan):
    """Tell whether the plan is a right plan of the runner."""
    small = _checked_board(board, ways_out, power, start, plan)
    if not _covers(small, plan, ((), start)):
        return False
    for struck, cell, strike in plan:
        position = (struck, cell)
        landing = plan[(struck, cell, strike)]
        if not small.is_position(position) or strike not in small.free_cells(position):
            return False
        if landing not in small.landings(position, strike):
            return False
        if not small.is_out(landing) and not _covers(small, plan, position_after(position, strike, landing)):
            return False
    return True


def _checked_board(board, ways_out, power, start, plan=()):
    """Return the small board; raise the errors of the arguments."""
    check_small(board, ways_out, power)
    check_cell(start)
    check_length(plan, PLAN_MOST)
    check_places(board, ways_out, start)
    return SmallBoard(board, ways_out, power)


def _has_answer(small, plan, position):
    """Tell whether a plan of the breaker has the position, or needs no strike in it."""
    return position in plan or len(small.free_cells(position)) == 0


def _covers(small, plan, position):
    """Tell whether a plan of the runner covers the position."""
    strikes = small.free_cells(position)
    return len(strikes) > 0 and all([(*position, strike) in plan for strike in strikes])
