"""The errors of the package, each derived directly from PlayError."""


class PlayError(ValueError):
    """The base class of all errors of the package."""


class BadNumber(PlayError):
    """A number is outside of its range."""

    def __init__(self, number):
        self.number = number


class TooMany(PlayError):
    """A list or text has more items or characters than `most`."""

    def __init__(self, most):
        self.most = most


class TooMuch(PlayError):
    """A call would have to look at more than `most`."""

    def __init__(self, most):
        self.most = most


class BadCell(PlayError):
    """A cell has a coordinate beyond the reach."""

    def __init__(self, cell):
        self.cell = cell


class BadName(PlayError):
    """A value is none of the names, headings or kinds of deeds that are asked for."""

    def __init__(self, name):
        self.name = name


class EmptyBox(PlayError):
    """A box would have no cells."""


class NoCells(PlayError):
    """There is no cell where at least one is needed."""


class BadText(PlayError):
    """The line with the number `line` is the first one that cannot be read."""

    def __init__(self, line):
        self.line = line


class BadEdge(PlayError):
    """An edge is not between two neighbouring cells, or lies too far away."""

    def __init__(self, edge):
        self.edge = edge


class NotBoundary(PlayError):
    """An edge is no boundary edge of the ground."""

    def __init__(self, edge):
        self.edge = edge


class NotClosed(PlayError):
    """The edge at the index `at` does not begin where the edge before it ends."""

    def __init__(self, at):
        self.at = at


class BadLetter(PlayError):
    """There is no letter, or none of the letters, at the index `at`."""

    def __init__(self, at):
        self.at = at


class NotJoined(PlayError):
    """Two loops begin at different corners."""


class NotSame(PlayError):
    """Two things differ that must be the same."""


class NoRegion(PlayError):
    """The winding number of a cell is neither 0 nor 1."""

    def __init__(self, cell):
        self.cell = cell


class NotOpen(PlayError):
    """A cell is not an open cell of the basin."""

    def __init__(self, cell):
        self.cell = cell


class BadStreams(PlayError):
    """The stream at the index `at` makes the streams not valid."""

    def __init__(self, at):
        self.at = at


class OnShore(PlayError):
    """A cell is on the shore."""

    def __init__(self, cell):
        self.cell = cell


class NotAllowed(PlayError):
    """A cell is barred or beyond the band."""

    def __init__(self, cell):
        self.cell = cell


class Occupied(PlayError):
    """The runner is on the cell."""

    def __init__(self, cell):
        self.cell = cell


class AlreadyStruck(PlayError):
    """The cell is struck already."""

    def __init__(self, cell):
        self.cell = cell


class NothingToUndo(PlayError):
    """There is nothing to take back."""


class NotHeld(PlayError):
    """Every pattern of the level lacks at least two columns."""

    def __init__(self, level):
        self.level = level


class NotPrepared(PlayError):
    """A pen of this half size must be prepared."""

    def __init__(self, half):
        self.half = half


class TooNear(PlayError):
    """The runner may not start at the cell, so near to a wall."""

    def __init__(self, cell):
        self.cell = cell


class Outside(PlayError):
    """The cell is not inside the pen."""

    def __init__(self, cell):
        self.cell = cell


class BadStep(PlayError):
    """The cell does not touch the cell of the runner."""

    def __init__(self, cell):
        self.cell = cell


class WrongPhase(PlayError):
    """The deed does not belong to the phase."""

    def __init__(self, phase):
        self.phase = phase


class OffBoard(PlayError):
    """The cell is not on the board."""

    def __init__(self, cell):
        self.cell = cell


class TooFar(PlayError):
    """The cell is farther from the runner than its power."""

    def __init__(self, cell):
        self.cell = cell


class NoNode(PlayError):
    """The study has no node with this number."""

    def __init__(self, node):
        self.node = node


class BadDeed(PlayError):
    """The cell or deed in the line with the number `line` is refused."""

    def __init__(self, line):
        self.line = line
