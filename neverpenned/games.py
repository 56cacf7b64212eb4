"""Games between a runner and a breaker, played deed by deed."""

from neverpenned.cells import CELLS_MOST, POWER_MOST, REACH, cells_within, check_cell, check_cells, distance
from neverpenned.checks import check_number
from neverpenned.errors import (
    AlreadyStruck, BadName, NothingToUndo, Occupied, OffBoard, TooFar, TooMany, WrongPhase,
)
from neverpenned.phases import AWAY, MOVE, PENNED, STRIKE
from neverpenned.regions import Region

TURNS_MOST = 1200


class Game:
    """A game on a board, which is a region or, without one, the open board."""

    def __init__(self, power, start=(0, 0), *, board=None, ways_out=(), before=()):
        check_number(power, 1, POWER_MOST)
        check_cell(start)
        check_cells(ways_out, CELLS_MOST)
        check_cells(before, CELLS_MOST)
        # The cells of the board, ascending; None for the open board.
        self._spots = None if board is None else {cell: True for cell in board.cells}
        self._check_start(start, ways_out, before)
        self.power = power
        self.start = start
        self.ways_out = tuple(sorted(set(ways_out)))
        self.before = tuple(sorted(set(before)))
        self.cell = start
        self._struck = {cell: True for cell in self.before}
        self._deeds = []
        # The cells of the runner after 0, 1, 2, .. moves.
        self._path = [start]
        self.phase = self._present_phase()

    @property
    def board(self):
        """A new Region with the cells of the board, or None for the open board."""
        return None if self._spots is None else Region(list(self._spots))

    @property
    def turn(self):
        """The number of strikes."""
        return len(self._struck) - len(self.before)

    @property
    def deeds(self):
        """The tuple of the deeds in their order."""
        return tuple(self._deeds)

    def strike(self, cell):
        """Strike the cell."""
        if self.phase != STRIKE:
            raise WrongPhase(self.phase)
        if self.turn == TURNS_MOST:
            raise TooMany(TURNS_MOST)
        self._check_place(cell)
        if cell in self._struck:
            raise AlreadyStruck(cell)
        self._struck[cell] = True
        self._deeds.append((STRIKE, cell))
        self.phase = self._present_phase()

    def move(self, cell):
        """Move the runner to the cell."""
        if self.phase != MOVE:
            raise WrongPhase(self.phase)
        self._check_place(cell)
        if distance(cell, self.cell) > self.power:
            raise TooFar(cell)
        if cell in self._struck:
            raise AlreadyStruck(cell)
        self._path.append(cell)
        self.cell = cell
        self._deeds.append((MOVE, cell))
        self.phase = self._present_phase()

    def do(self, deed):
        """Do a deed, a tuple of its name and the cell."""
        name, cell = deed
        if name == STRIKE:
            self.strike(cell)
        elif name == MOVE:
            self.move(cell)
        else:
            raise BadName(name)

    def is_struck(self, cell):
        """Tell whether the cell is struck, before the game or in it."""
        check_cell(cell)
        return cell in self._struck

    def landings(self):
        """Return the landings, ascending, in any phase."""
        return [cell for cell in cells_within(self.cell, self.power) if self._is_on_board(cell)
                and cell not in self._struck]

    def undo(self):
        """Take back the latest deed and return it."""
        if len(self._deeds) == 0:
            raise NothingToUndo()
        name, cell = self._deeds.pop()
        if name == STRIKE:
            del self._struck[cell]
        else:
            self._path.pop()
            self.cell = self._path[-1]
        self.phase = self._present_phase()
        return (name, cell)

    def copy(self):
        """Return a new game in the same state, with the same deeds."""
        game = Game(self.power, self.start, board=self.board, ways_out=self.ways_out, before=self.before)
        game.cell = self.cell
        game.phase = self.phase
        game._struck = {cell: True for cell in self._struck}
        game._deeds = list(self._deeds)
        game._path = list(self._path)
        return game

    def _check_start(self, start, ways_out, before):
        """Raise the errors of the places that must fit to each other when a game begins."""
        if not self._is_on_board(start):
            raise OffBoard(start)
        for cell in ways_out:
            # The open board has no ways out.
            if self._spots is None or cell not in self._spots:
                raise OffBoard(cell)
        for cell in before:
            if not self._is_on_board(cell):
                raise OffBoard(cell)
        if start in ways_out:
            raise Occupied(start)
        if start in before:
            raise AlreadyStruck(start)

    def _check_place(self, cell):
        """Raise the errors of a cell that is refused for a strike as well as for a move."""
        check_cell(cell)
        if not self._is_on_board(cell):
            raise OffBoard(cell)
        if cell == self.cell:
            raise Occupied(cell)

    def _is_on_board(self, cell):
        """Tell whether the cell, which may lie beyond the reach, is on the board."""
        if self._spots is None:
            return max(abs(cell[0]), abs(cell[1])) <= REACH
        return cell in self._spots

    def _present_phase(self):
        """Return the phase after the latest deed, or at the start."""
        if self.cell in self.ways_out:
            return AWAY
        if len(self._deeds) > 0 and self._deeds[-1][0] == STRIKE:
            return MOVE if self.landings() else PENNED
        return STRIKE if self._has_free_cell() else PENNED

    def _has_free_cell(self):
        """Tell whether the board has a free cell."""
        # All struck cells are on the board, and so is the runner, on a cell that is not struck. So many cells as may
        # be struck before a game and in it are far fewer than the open board has.
        return self._spots is None or len(self._spots) - len(self._struck) > 1
