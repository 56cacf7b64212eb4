"""The eight symmetries of the board that leave the cell (0, 0) where it is."""

from neverpenned.cells import check_cell
from neverpenned.checks import check_number
from neverpenned.errors import BadName

MIRROR = 4


class Symmetry:
    """A symmetry; one with a code of at least 4 first mirrors the board, and then turns it."""

    NAMES = ("nl", "wl", "sl", "el", "nr", "wr", "sr", "er")

    def __init__(self, code):
        check_number(code, 0, 7)
        self.code = code
        self.name = self.NAMES[code]

    @classmethod
    def named(cls, name):
        """Return the symmetry with this name."""
        if name not in cls.NAMES:
            raise BadName(name)
        return cls(cls.NAMES.index(name))

    @property
    def mirrors(self):
        """True if the symmetry mirrors the board, otherwise False."""
        return self.code >= MIRROR

    def __call__(self, cell):
        check_cell(cell)
        return cell_image(self.code, cell)

    def __mul__(self, other):
        # Mirrored, a quarter turn goes the other way round.
        turns = self.code - other.code if self.mirrors else self.code + other.code
        mirror = MIRROR if self.mirrors != other.mirrors else 0
        return Symmetry(mirror + turns % 4)

    def __invert__(self):
        # A symmetry that mirrors takes every cell back itself.
        return Symmetry(self.code if self.mirrors else -self.code % 4)

    def __eq__(self, other):
        return isinstance(other, Symmetry) and self.code == other.code


def cell_image(code, cell):
    """Return the image of any cell, also of one beyond the reach, by the symmetry with this code."""
    x, y = cell
    if code >= MIRROR:
        x = -x
    for _ in range(code % 4):
        x, y = -y, x
    return (x, y)
