"""The bank runner: a runner of power two that is never penned."""

from neverpenned.banks import Bank
from neverpenned.bestbanks import best_bank
from neverpenned.cells import check_cell, check_cells
from neverpenned.certificates import bank_certificate
from neverpenned.checks import check_number
from neverpenned.errors import AlreadyStruck, NothingToUndo, Occupied, TooMany
from neverpenned.symmetries import Symmetry
from neverpenned.walks import ahead_edges, barred_cells, passed_edges, start_edge


class BankRunner:
    """A runner that walks along the least best bank, on its right side."""

    MOST = 36

    def __init__(self, code=0):
        symmetry = Symmetry(code)
        self.code = symmetry.code
        self.cell = (0, 0)
        self.struck = ()
        self.visited = ((0, 0),)
        self._to_board = symmetry
        self._to_own = ~symmetry
        # The edges of the walk with the numbers from 0 to that of the edge on which the runner stands.
        self._trail = [start_edge(0)]
        self._marks = [0]
        self._banks = [Bank()]

    @classmethod
    def played(cls, strikes, code=0):
        """Return a bank runner after turns in which the cells of the list were struck."""
        check_cells(strikes, cls.MOST)
        runner = cls(code)
        for cell in strikes:
            runner.strike(cell)
        return runner

    @property
    def turn(self):
        """The number of turns so far."""
        return len(self.struck)

    @property
    def marks(self):
        """The tuple of the numbers of the edges on which it stood after 0, 1, 2, .. turns."""
        return tuple(self._marks)

    def strike(self, cell):
        """Play a turn in which this cell is struck, and return the landing."""
        if self.turn == self.MOST:
            raise TooMany(self.MOST)
        check_cell(cell)
        if cell == self.cell:
            raise Occupied(cell)
        if cell in self.struck:
            raise AlreadyStruck(cell)
        bank = best_bank([*self.struck_by(self.turn), self.to_own(cell)], self.barred_at(self.turn + 1))
        passed = passed_edges(bank, self._trail[-1])
        self._banks.append(bank)
        self._trail.extend(list(passed))
        self._marks.append(len(self._trail) - 1)
        self.struck = (*self.struck, cell)
        self.cell = self.to_board(passed[-1][1])
        self.visited = (*self.visited, self.cell)
        return self.cell

    def undo(self):
        """Take back the latest turn."""
        if self.turn == 0:
            raise NothingToUndo()
        self._banks.pop()
        self._marks.pop()
        del self._trail[self._marks[-1] + 1:]
        self.struck = self.struck[:-1]
        self.visited = self.visited[:-1]
        self.cell = self.visited[-1]

    def copy(self):
        """Return a new bank runner that has played the same turns."""
        runner = BankRunner(self.code)
        runner.cell = self.cell
        runner.struck = self.struck
        runner.visited = self.visited
        runner._trail = list(self._trail)
        runner._marks = list(self._marks)
        # No bank of this list is ever given away or changed, so that both lists may have the same ones.
        runner._banks = list(self._banks)
        return runner

    def to_own(self, cell):
        """Return the cell of the own frame that the symmetry takes to the cell of the board."""
        return self._to_own(cell)

    def to_board(self, cell):
        """Return the cell of the board to which the symmetry takes the cell of the own frame."""
        return self._to_board(cell)

    def bank_at(self, turn):
        """Return the bank of the turn with this number; that of the turn 0 is the shore."""
        check_number(turn, 0, self.turn)
        return Bank(self._banks[turn].extra)

    def barred_at(self, turn):
        """Return the barred cells of this turn within the reach, ascending."""
        check_number(turn, 1, self.turn + 1)
        return barred_cells(self._trail[:self._marks[turn - 1] + 1])

    def struck_by(self, turn):
        """Return the cells struck in the first turns, so many, as cells of the own frame."""
        check_number(turn, 0, self.turn)
        return [self.to_own(cell) for cell in self.struck[:turn]]

    def trail(self):
        """Return the edges of the trail with the numbers from 0 on."""
        return list(self._trail)

    def edges_ahead(self, many):
        """Return the next edges ahead, so many."""
        return ahead_edges(self._banks[-1], self._trail[-1], many)

    def certificate_at(self, turn):
        """Return a right certificate of the bank of this turn."""
        check_number(turn, 1, self.turn)
        return bank_certificate(self.struck_by(turn), self.barred_at(turn))
