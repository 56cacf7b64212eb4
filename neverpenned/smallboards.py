"""Small boards: their positions, and the ranks of these."""

from neverpenned.cells import POWER_MOST, check_cells
from neverpenned.checks import check_number
from neverpenned.errors import NoCells, Occupied, OffBoard, TooMuch

SMALL_MOST = 7


class SmallBoard:
    """A board with ways out and a power; a position of it is a tuple of the struck cells and the cell of the runner."""

    def __init__(self, board, ways_out, power):
        self.cells = board.cells
        self._spots = {cell: True for cell in board.cells}
        self._outs = {cell: True for cell in ways_out}
        self._power = power

    def is_out(self, cell):
        """Tell whether the cell is a way out."""
        return cell in self._outs

    def positions(self):
        """Return all positions, ascending."""
        lots = sorted([self._chosen(code) for code in range(1 << len(self.cells))])
        return [(lot, cell) for lot in lots for cell in self.cells if cell not in lot and cell not in self._outs]

    def is_position(self, position):
        """Tell whether the tuple, whose cells may be any, is a position."""
        struck, cell = position
        if struck != tuple(sorted(set(struck))) or not all([other in self._spots for other in struck]):
            return False
        return cell in self._spots and cell not in self._outs and cell not in struck

    def free_cells(self, position):
        """Return the free cells of the position, ascending."""
        struck, cell = position
        return [other for other in self.cells if other != cell and other not in struck]

    def landings(self, position, strike):
        """Return the landings, ascending, that the runner has after this strike in the position."""
        x, y = position[1]
        return [other for other in self.free_cells(position) if other != strike
                and max(abs(other[0] - x), abs(other[1] - y)) <= self._power]

    def _chosen(self, code):
        """Return the tuple of the cells whose bits are set in the code."""
        return tuple([cell for at, cell in enumerate(self.cells) if code >> at & 1])


def check_small(board, ways_out, power):
    """Raise the errors of the single arguments that make a small board."""
    if len(board) > SMALL_MOST:
        raise TooMuch(SMALL_MOST)
    if len(board) == 0:
        raise NoCells()
    check_cells(ways_out, SMALL_MOST)
    check_number(power, 1, POWER_MOST)


def check_outs(board, ways_out):
    """Raise OffBoard for the first way out that is not on the board."""
    for cell in ways_out:
        if cell not in board:
            raise OffBoard(cell)


def check_places(board, ways_out, start):
    """Raise the errors of a start and ways out that do not fit to the board or to each other."""
    check_outs(board, ways_out)
    if start not in board:
        raise OffBoard(start)
    if start in ways_out:
        raise Occupied(start)


def position_after(position, strike, landing):
    """Return the position after the strike and the move to the landing."""
    return (tuple(sorted([*position[0], strike])), landing)


def rank_table(small):
    """Return a dict with the rank of every position."""
    ranked = {}
    positions = small.positions()
    # A position is ranked by those in which one more cell is struck.
    for many in range(len(small.cells) - 1, -1, -1):
        for position in positions:
            if len(position[0]) == many:
                ranked[position] = _rank_by_later(small, ranked, position)
    return ranked


def rank_after(small, ranked, position, strike):
    """Return the greatest rank to which a landing leads after this strike, 0 without one, or None if any leads away.

    The dict has the ranks of the positions in which one more cell is struck.
    """
    later = [None if small.is_out(landing) else ranked[position_after(position, strike, landing)]
             for landing in small.landings(position, strike)]
    return None if None in later else max(later, default=0)


def best_strike(small, ranked, position):
    """Return the first strike after which each landing leads to a lower rank; the position has a rank other than 0."""
    return [strike for strike in small.free_cells(position)
            if rank_after(small, ranked, position, strike) == ranked[position] - 1][0]


def best_landing(small, ranked, position, strike):
    """Return the first landing that is a way out or leads to a position without a rank; the position has no rank."""
    return [landing for landing in small.landings(position, strike)
            if small.is_out(landing) or ranked[position_after(position, strike, landing)] is None][0]


def _rank_by_later(small, ranked, position):
    """Return the rank of the position, where the dict has those of the positions with one more struck cell."""
    strikes = small.free_cells(position)
    if len(strikes) == 0:
        return 0
    later = [rank_after(small, ranked, position, strike) for strike in strikes]
    told = [number for number in later if number is not None]
    return min(told) + 1 if len(told) > 0 else None
