"""The pen breaker: a breaker that pens in every runner of power one."""

from neverpenned.cells import are_touching, check_cell, touching
from neverpenned.errors import AlreadyStruck, BadStep, NothingToUndo, TooNear, WrongPhase
from neverpenned.pens import check_preparation, lacking_among, may_start
from neverpenned.phases import MOVE, PENNED, STRIKE
from neverpenned.walls import check_half, corner_cells, is_corner, lies_outer, wall_cells


class PenBreaker:
    """A breaker that strikes cells of a pen, and is told how the runner moves."""

    def __init__(self, half=65, start=(0, 0), *, prepared=False):
        check_half(half)
        check_cell(start)
        check_preparation(half, prepared)
        if not may_start(half, start, prepared):
            raise TooNear(start)
        self.half = half
        self.start = start
        self.prepared = prepared
        self.cell = start
        self.struck = ()
        self.phase = STRIKE
        self._path = [start]
        self._reasons = []
        self._members = {cell: True for cell in corner_cells(half)} if prepared else {}
        # In this order cells are struck that do not lack. All of them up to an index are struck already; the indexes
        # before each strike are kept, so that strikes can be taken back.
        self._order = _order_of_cells(half)
        self._at = 0
        self._earlier = []

    @property
    def reasons(self):
        """The tuple of the reasons of the strikes."""
        return tuple(self._reasons)

    def strike(self):
        """Make the next strike and return the struck cell."""
        if self.phase != STRIKE:
            raise WrongPhase(self.phase)
        lacks = lacking_among(self.half, self.cell, self._members)
        self._earlier.append(self._at)
        if lacks:
            cell = lacks[0]
            self._reasons.append("lack")
        else:
            cell = self._first_free()
            self._reasons.append(_kind(self.half, cell))
        self._members[cell] = True
        self.struck = (*self.struck, cell)
        escapes = [other for other in touching(self.cell) if other not in self._members]
        self.phase = MOVE if escapes else PENNED
        return cell

    def move(self, cell):
        """Take note that the runner has moved to this cell."""
        if self.phase != MOVE:
            raise WrongPhase(self.phase)
        check_cell(cell)
        if not are_touching(cell, self.cell):
            raise BadStep(cell)
        if cell in self._members:
            raise AlreadyStruck(cell)
        self._path.append(cell)
        self.cell = cell
        self.phase = STRIKE

    def is_struck(self, cell):
        """Tell whether the cell is struck, by the preparation or in the game."""
        check_cell(cell)
        return cell in self._members

    def path(self):
        """Return the list of the cells on which the runner has stood after 0, 1, 2, .. moves."""
        return list(self._path)

    def undo(self):
        """Take back the latest strike or move."""
        if self.phase != STRIKE:
            del self._members[self.struck[-1]]
            self.struck = self.struck[:-1]
            self._reasons.pop()
            self._at = self._earlier.pop()
            self.phase = STRIKE
        elif len(self._path) > 1:
            self._path.pop()
            self.cell = self._path[-1]
            self.phase = MOVE
        else:
            raise NothingToUndo()

    def copy(self):
        """Return a new pen breaker in the same state, which can be taken back as far."""
        breaker = PenBreaker(self.half, self.start, prepared=self.prepared)
        breaker.cell = self.cell
        breaker.struck = self.struck
        breaker.phase = self.phase
        breaker._path = list(self._path)
        breaker._reasons = list(self._reasons)
        breaker._members = {cell: True for cell in self._members}
        breaker._at = self._at
        breaker._earlier = list(self._earlier)
        return breaker

    def _first_free(self):
        """Return the first cell of the order that is neither struck nor the cell of the runner."""
        while self._order[self._at] in self._members:
            self._at += 1
        at = self._at
        # The runner may leave its cell, so that the index stays before it.
        while self._order[at] in self._members or self._order[at] == self.cell:
            at += 1
        return self._order[at]


def _order_of_cells(half):
    """Return the corner cells, then the other cells of the walls, then the inside cells, each ascending."""
    outer = [cell for cell in wall_cells(half) if not is_corner(half, cell)]
    columns = range(1 - half, half)
    return [*corner_cells(half), *outer, *[(x, y) for x in columns for y in columns]]


def _kind(half, cell):
    """Return the reason to strike a cell of the pen that does not lack."""
    if not lies_outer(half, cell):
        return "inside"
    return "corner" if is_corner(half, cell) else "wall"
