"""Components and holes of regions."""

from neverpenned.boxes import check_area
from neverpenned.cells import SIDES, TOUCHES, cells_at
from neverpenned.regions import Region

HOLES_AREA_MOST = 800


def components(region):
    """Return the components as regions, in ascending order of their least cells."""
    return [Region(group) for group in connected_groups(region.cells, SIDES)]


def holes(region):
    """Return the holes as regions, in ascending order of their least cells."""
    box = region.box
    if box is None:
        return []
    check_area(box, HOLES_AREA_MOST)
    others = [cell for cell in box.all_cells() if cell not in region]
    return [Region(group) for group in connected_groups(others, TOUCHES) if not _meets_rim(box, group)]


def filled(region):
    """Return the region with all its holes."""
    cells = list(region.cells)
    for hole in holes(region):
        cells.extend(list(hole.cells))
    return Region(cells)


def _meets_rim(box, cells):
    """Tell whether one of the cells of the box touches a cell outside of the box."""
    # From such a cell one step leaves the box; from all others every step stays in the box.
    return any([x in (box.west, box.east) or y in (box.south, box.north) for x, y in cells])


def connected_groups(cells, steps):
    """Return the ascending lists of the cells that the steps connect, in the order of their least cells."""
    members = {cell: True for cell in cells}
    seen = {}
    groups = []
    for cell in sorted(members):
        if cell not in seen:
            group = reached_from(cell, members, steps)
            groups.append(group)
            for other in group:
                seen[other] = True
    return groups


def reached_from(start, members, steps):
    """Return the ascending list of the cells to which the steps lead from start over members."""
    found = {start: True}
    waiting = [start]
    while waiting:
        reached = waiting.pop()
        for cell in cells_at(reached, steps):
            if cell in members and cell not in found:
                found[cell] = True
                waiting.append(cell)
    return sorted(found)
