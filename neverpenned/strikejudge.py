"""A judge of games between a pen breaker and a runner of power one."""

from neverpenned.cells import are_touching, check_cells
from neverpenned.pens import check_preparation, is_held_among, may_start
from neverpenned.walls import PEN_MOST, check_half, corner_cells, lies_inside, lies_outer


def judge_strikes(half, prepared, cells, strikes):
    """Tell whether the strikes keep the pen held for a runner that stands on these cells one after the other."""
    check_half(half)
    check_cells(cells, PEN_MOST)
    check_cells(strikes, PEN_MOST)
    check_preparation(half, prepared)
    if len(cells) == 0 or len(cells) - len(strikes) not in (0, 1) or not may_start(half, cells[0], prepared):
        return False
    members = {cell: True for cell in corner_cells(half)} if prepared else {}
    for at, cell in enumerate(cells):
        if not lies_inside(half, cell):
            return False
        if at > 0 and (cell in members or not are_touching(cell, cells[at - 1])):
            return False
        if at < len(strikes):
            strike = strikes[at]
            if strike in members or strike == cell or not _is_in_pen(half, strike):
                return False
            members[strike] = True
            if not is_held_among(half, cell, members):
                return False
    return True


def _is_in_pen(half, cell):
    """Tell whether the cell is a cell of the pen."""
    return lies_inside(half, cell) or lies_outer(half, cell)
