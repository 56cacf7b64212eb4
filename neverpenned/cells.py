"""Cells of the board: tuples (x, y) of two integers."""

from neverpenned.checks import check_length, check_number
from neverpenned.errors import BadCell, BadText

REACH = 120
CELLS_MOST = 800
OFFSET_MOST = 240
POWER_MOST = 5
TEXT_MOST = 20

# The steps to the neighbours and to the touching cells, counterclockwise from the east.
SIDES = ((1, 0), (0, 1), (-1, 0), (0, -1))
TOUCHES = ((1, 0), (1, 1), (0, 1), (-1, 1), (-1, 0), (-1, -1), (0, -1), (1, -1))


def check_cell(cell):
    """Raise BadCell if the cell has a coordinate beyond the reach."""
    x, y = cell
    if x < -REACH or x > REACH or y < -REACH or y > REACH:
        raise BadCell(cell)


def check_cells(cells, most):
    """Raise TooMany if the list is longer than most, then BadCell for its first cell beyond the reach."""
    check_length(cells, most)
    for cell in cells:
        check_cell(cell)


def cells_at(cell, steps):
    """Return the cells to which the steps lead from any cell, in the order of the steps."""
    x, y = cell
    return [(x + east, y + north) for east, north in steps]


def neighbours(cell):
    """Return the four neighbours: east, north, west, south."""
    check_cell(cell)
    return cells_at(cell, SIDES)


def are_neighbours(first, second):
    """Tell whether two cells, which may be any, share a side."""
    return abs(first[0] - second[0]) + abs(first[1] - second[1]) == 1


def are_touching(first, second):
    """Tell whether two cells, which may be any, are different and neither coordinate differs by more than 1."""
    return first != second and abs(first[0] - second[0]) <= 1 and abs(first[1] - second[1]) <= 1


def touching(cell):
    """Return the eight touching cells, counterclockwise from the east."""
    check_cell(cell)
    return cells_at(cell, TOUCHES)


def distance(first, second):
    """Return the greater one of the differences of the coordinates, without sign."""
    check_cell(first)
    check_cell(second)
    return max(abs(first[0] - second[0]), abs(first[1] - second[1]))


def cells_within(cell, power):
    """Return all other cells at a distance of at most power, ascending."""
    check_cell(cell)
    check_number(power, 1, POWER_MOST)
    offsets = range(-power, power + 1)
    steps = [(east, north) for east in offsets for north in offsets if (east, north) != (0, 0)]
    return cells_at(cell, steps)


def check_offset(east, north):
    """Raise BadNumber for the first of the two numbers by which a cell may not be moved."""
    check_number(east, -OFFSET_MOST, OFFSET_MOST)
    check_number(north, -OFFSET_MOST, OFFSET_MOST)


def moved(cell, east, north):
    """Return the cell that lies so far to the east and to the north."""
    check_cell(cell)
    check_offset(east, north)
    return (cell[0] + east, cell[1] + north)


def cell_text(cell):
    """Return the text x,y of the cell."""
    check_cell(cell)
    return plain_text(cell)


def plain_text(cell):
    """Return the text x,y of any cell."""
    return f"{cell[0]},{cell[1]}"


def read_cell(text):
    """Return the cell that the text writes."""
    check_length(text, TEXT_MOST)
    cell = _written_cell(text)
    if cell is None:
        raise BadText(1)
    check_cell(cell)
    return cell


def cell_or_none(text, most=REACH):
    """Return the cell that the text writes, or None if there is none or if it has a coordinate beyond `most`."""
    cell = _written_cell(text) if len(text) <= TEXT_MOST else None
    if cell is None or max(abs(cell[0]), abs(cell[1])) > most:
        return None
    return cell


def _written_cell(text):
    """Return the cell that a text of at most 20 characters writes, or None if it is not of this form."""
    parts = text.split(",")
    if len(parts) != 2 or not _writes_integer(parts[0]) or not _writes_integer(parts[1]):
        return None
    return (int(parts[0]), int(parts[1]))


def _writes_integer(text):
    """Tell whether the text is an integer as the package writes it."""
    digits = text.removeprefix("-")
    # isdigit alone would let digits of other scripts pass.
    if not digits.isascii() or not digits.isdigit():
        return False
    return text == "0" or not digits.startswith("0")
