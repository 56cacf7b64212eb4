"""Views of pen breakers: the pen drawn as a text."""

from neverpenned.checks import check_length
from neverpenned.errors import BadText
from neverpenned.pictures import is_row, placed_signs
from neverpenned.views import cell_of_runner, cells_with
from neverpenned.walls import HALF_LEAST, HALF_MOST, corner_cells, lies_outer

PEN_VIEW_MOST = 20000
SIGNS = "RPx+."


def pen_view(breaker):
    """Return the view of the pen breaker."""
    half = breaker.half
    prepared = {cell: True for cell in corner_cells(half)} if breaker.prepared else {}
    struck = {cell: True for cell in breaker.struck}
    columns = range(-half, half + 1)
    lines = []
    for y in range(half, -half - 1, -1):
        row = [(x, y) for x in columns]
        signs = [_sign(cell in prepared, cell in struck, lies_outer(half, cell)) for cell in row]
        lines.append("".join(["R" if cell == breaker.cell else sign for cell, sign in zip(row, signs)]))
    return "\n".join(lines)


def read_pen_view(text):
    """Return the tuple of the half size, the cell of the runner or None, the prepared and the struck cells."""
    check_length(text, PEN_VIEW_MOST)
    lines = text.split("\n")
    half = len(lines) // 2
    if len(lines) % 2 == 0 or half < HALF_LEAST or half > HALF_MOST:
        raise BadText(1)
    _check_rows(lines, half)
    signs = placed_signs(lines, -half, -half)
    return (half, cell_of_runner(signs), cells_with(signs, "P"), cells_with(signs, "x"))


def _check_rows(lines, half):
    """Raise BadText for the first line that is no row of a view of a pen, or that has a second runner."""
    runners = 0
    for number, line in enumerate(lines, start=1):
        runners += line.count("R")
        if runners > 1 or not is_row(line, len(lines), SIGNS) or not _fits_pen(line, half, half + 1 - number):
            raise BadText(number)


def _fits_pen(line, half, y):
    """Tell whether the line for the row y has no sign of a cell of a wall inside the pen, and the other way round."""
    return all([sign != ("." if lies_outer(half, (x, y)) else "+") for x, sign in enumerate(line, start=-half)])


def _sign(is_prepared, is_struck, is_outer_cell):
    """Return the sign of a cell on which the runner is not."""
    if is_prepared:
        return "P"
    if is_struck:
        return "x"
    return "+" if is_outer_cell else "."
