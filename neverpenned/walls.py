"""The walls of pens: their cells, and levels and columns of the cells inside."""

from neverpenned.cells import check_cell, check_cells
from neverpenned.checks import check_number
from neverpenned.errors import Outside
from neverpenned.symmetries import cell_image

HALF_LEAST = 10
HALF_MOST = 65
WALLS = (0, 1, 2, 3)
# The number of the cells of the greatest pen.
PEN_MOST = 17161
# How many columns at each end of a wall belong to its corner cells, less one.
CORNER_SPAN = 7
# The greatest relative column of a pattern.
RELATIVE_MOST = 2


def is_inside(half, cell):
    """Tell whether the cell is inside the pen."""
    check_half(half)
    check_cell(cell)
    return lies_inside(half, cell)


def is_outer(half, cell):
    """Tell whether the cell is a cell of a wall of the pen."""
    check_half(half)
    check_cell(cell)
    return lies_outer(half, cell)


def wall_cell(half, wall, column):
    """Return the cell of the wall in this column."""
    check_half(half)
    check_number(wall, WALLS[0], WALLS[-1])
    check_number(column, -half, half)
    return cell_in(half, wall, column)


def level_of(half, wall, cell):
    """Return the level of an inside cell for the wall."""
    check_half(half)
    check_number(wall, WALLS[0], WALLS[-1])
    check_cell(cell)
    check_inside(half, cell)
    return place_of(half, wall, cell)[0]


def column_of(half, wall, cell):
    """Return the column of an inside cell for the wall."""
    check_half(half)
    check_number(wall, WALLS[0], WALLS[-1])
    check_cell(cell)
    check_inside(half, cell)
    return place_of(half, wall, cell)[1]


def wall_cells(half):
    """Return the cells of all walls, ascending."""
    check_half(half)
    columns = range(-half, half + 1)
    # The cells at the ends of the walls belong to two walls.
    return sorted(set([cell_in(half, wall, column) for wall in WALLS for column in columns]))


def corner_cells(half):
    """Return the corner cells, ascending."""
    return [cell for cell in wall_cells(half) if is_corner(half, cell)]


def struck_columns(half, wall, cell, struck):
    """Return the struck columns of the wall for an inside cell, as relative columns, ascending."""
    check_half(half)
    check_number(wall, WALLS[0], WALLS[-1])
    check_cell(cell)
    check_cells(struck, PEN_MOST)
    check_inside(half, cell)
    members = {other: True for other in struck}
    return columns_among(half, wall, place_of(half, wall, cell)[1], members)


def check_half(half):
    """Raise BadNumber if there is no pen of this half size."""
    check_number(half, HALF_LEAST, HALF_MOST)


def check_inside(half, cell):
    """Raise Outside if the cell is not inside the pen."""
    if not lies_inside(half, cell):
        raise Outside(cell)


def lies_inside(half, cell):
    """Return what is_inside returns, without checks."""
    return max(abs(cell[0]), abs(cell[1])) < half


def lies_outer(half, cell):
    """Return what is_outer returns, without checks."""
    return max(abs(cell[0]), abs(cell[1])) == half


def is_corner(half, cell):
    """Tell whether a cell of a wall is a corner cell."""
    return min(abs(cell[0]), abs(cell[1])) >= half - CORNER_SPAN


def cell_in(half, wall, column):
    """Return what wall_cell returns, without checks."""
    # Each wall is the one before it, turned by a quarter turn counterclockwise.
    return cell_image(wall, (column, half))


def place_of(half, wall, cell):
    """Return the tuple of the level and the column of the cell for the wall."""
    x, y = cell_image(-wall % len(WALLS), cell)
    return (half - y, x)


def columns_among(half, wall, column, members):
    """Return the struck columns, relative to this column, where the dict has the struck cells."""
    return [by for by in range(-RELATIVE_MOST, RELATIVE_MOST + 1)
            if abs(column + by) > half or cell_in(half, wall, column + by) in members]
