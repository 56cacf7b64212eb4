"""Pictures: regions drawn as texts."""

from neverpenned.boxes import AREA_MOST, check_area
from neverpenned.cells import CELLS_MOST, REACH, check_cell
from neverpenned.checks import check_length, check_number
from neverpenned.errors import BadText, TooMany
from neverpenned.regions import Region

PICTURE_MOST = 6000


def picture(region, box):
    """Return the picture of the region in the box."""
    check_area(box, AREA_MOST)
    return "\n".join([_line(region, box, y) for y in range(box.north, box.south - 1, -1)])


def read_picture(text, west, south):
    """Return the region whose picture the text is, with (west, south) as its south-west cell."""
    check_length(text, PICTURE_MOST)
    lines = text.split("\n")
    _check_lines(lines)
    if text.count("#") > CELLS_MOST:
        raise TooMany(CELLS_MOST)
    signs = placed_signs(lines, west, south)
    return Region([cell for cell in signs if signs[cell] == "#"])


def is_row(line, width, signs):
    """Tell whether the line is not empty, has this width, and has no other characters than the signs."""
    return line != "" and len(line) == width and len([sign for sign in line if sign in signs]) == width


def placed_signs(lines, west, south):
    """Return a dict from the cells to their signs, where (west, south) is the first character of the last line.

    The lines have the same length. Raises the errors of numbers and cells beyond the reach.
    """
    check_number(west, -REACH, REACH)
    check_number(south, -REACH, REACH)
    north = south + len(lines) - 1
    check_cell((west + len(lines[0]) - 1, north))
    return {(west + column, north - row): sign for row, line in enumerate(lines) for column, sign in enumerate(line)}


def _line(region, box, y):
    """Return the line of the picture for the row y."""
    return "".join(["#" if (x, y) in region else "." for x in range(box.west, box.east + 1)])


def _check_lines(lines):
    """Raise BadText for the first line that is no line of a picture."""
    for number, line in enumerate(lines, start=1):
        if not is_row(line, len(lines[0]), "#."):
            raise BadText(number)
