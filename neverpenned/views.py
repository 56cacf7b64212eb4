"""Views of bank runners: the board drawn as a text."""

from neverpenned.boxes import AREA_MOST, check_area
from neverpenned.checks import check_length
from neverpenned.errors import BadText
from neverpenned.pictures import PICTURE_MOST, is_row, placed_signs

SIGNS = "RXx#o."


class View:
    """What a view shows: the cell of the runner or None, and the struck cells, the bank and the visited cells."""

    def __init__(self, cell, struck, bank, visited):
        self.cell = cell
        self.struck = tuple(struck)
        self.bank = tuple(bank)
        self.visited = tuple(visited)

    def __eq__(self, other):
        return (isinstance(other, View) and self.cell == other.cell and self.struck == other.struck
                and self.bank == other.bank and self.visited == other.visited)


def view(runner, box):
    """Return the view of the bank runner in the box."""
    check_area(box, AREA_MOST)
    bank = runner.bank_at(runner.turn)
    struck = {cell: True for cell in runner.struck}
    visited = {cell: True for cell in runner.visited}
    columns = range(box.west, box.east + 1)
    lines = []
    for y in range(box.north, box.south - 1, -1):
        row = [(x, y) for x in columns]
        signs = [_sign(cell in struck, runner.to_own(cell) in bank, cell in visited) for cell in row]
        lines.append("".join(["R" if cell == runner.cell else sign for cell, sign in zip(row, signs)]))
    return "\n".join(lines)


def read_view(text, west, south):
    """Return the View that the text shows, with (west, south) as its south-west cell."""
    check_length(text, PICTURE_MOST)
    lines = text.split("\n")
    _check_rows(lines)
    signs = placed_signs(lines, west, south)
    return View(cell_of_runner(signs), cells_with(signs, "Xx"), cells_with(signs, "X#"), cells_with(signs, "o"))


def cell_of_runner(signs):
    """Return the cell with the sign of the runner, or None."""
    cells = cells_with(signs, "R")
    return cells[0] if cells else None


def cells_with(signs, wanted):
    """Return the tuple of the cells that have one of the wanted signs, ascending."""
    return tuple(sorted([cell for cell in signs if signs[cell] in wanted]))


def _check_rows(lines):
    """Raise BadText for the first line that is no row of a view, or that has a second runner."""
    runners = 0
    for number, line in enumerate(lines, start=1):
        runners += line.count("R")
        if runners > 1 or not is_row(line, len(lines[0]), SIGNS):
            raise BadText(number)


def _sign(is_struck, is_in_bank, is_visited):
    """Return the sign of a cell on which the runner is not."""
    if is_struck:
        return "X" if is_in_bank else "x"
    if is_in_bank:
        return "#"
    return "o" if is_visited else "."
