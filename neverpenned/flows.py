"""Flows: full streams of a basin, as the sides between cells that they pass."""

from neverpenned.cells import SIDES

# The kinds of the cells of a flow. From a closed cell no exit can be reached any more; the shore is closed, too.
OPEN = 0
EXIT = 1
CLOSED = 2

# The sides of a cell, as indexes of SIDES, in the order in which a search tries them.
EAST = 0
NORTH_FIRST = (1, 2, 0, 3)
SOUTH_FIRST = (3, 2, 0, 1)


class Flow:
    """Full streams of a basin that has a box.

    The cells of the box and those around it have numbers, in ascending order of the cells. A way leads from a cell over
    one of its sides; its number is four times that of the cell plus the index of the step in SIDES.
    """

    def __init__(self, basin):
        box = basin.box
        self._south = box.south - 1
        self._span = box.height + 2
        self._steps = [east * self._span + north for east, north in SIDES]
        self._kinds = _kinds(basin, box)
        self._passed = [False] * (len(SIDES) * len(self._kinds))
        # The first cells of the streams, in ascending order.
        self._begun = []
        self._sources = [self._number_of(cell) for cell in basin.sources]
        self._add_shore_streams()
        for source in self._sources:
            self._add_stream(source, NORTH_FIRST)
            self._add_stream(source, SOUTH_FIRST)

    def count_streams(self):
        """Return the number of the streams."""
        return len(self._begun)

    def all_streams(self):
        """Return the streams as lists of cells, in ascending order of their first cells."""
        passed = list(self._passed)
        return [self._take_stream(first, passed) for first in self._begun]

    def closed_cells(self):
        """Return the cells, ascending, to which rest steps lead from sources that do not leak; these are included."""
        for source in self._sources:
            self._way_out(source, NORTH_FIRST)
        return [self._cell_at(number) for number, kind in enumerate(self._kinds)
                if kind == CLOSED and number >= self._span]

    def _add_shore_streams(self):
        """Begin a stream at the shore in every row and let it go straight east."""
        for first in range(1, self._span - 1):
            self._begun.append(first)
            here = first + self._span
            while self._kinds[here] == OPEN:
                self._passed[len(SIDES) * here + EAST] = True
                here += self._span

    def _add_stream(self, source, order):
        """Begin one more stream at the source, if that can be."""
        ways = self._way_out(source, order)
        if ways is not None:
            self._begun.append(source)
            self._pass_ways(ways)

    def _way_out(self, start, order):
        """Return ways by rest steps from the start to an exit; without any, return None and close what was reached."""
        if self._kinds[start] == CLOSED:
            return None
        tried = {start: 0}
        ways = []
        here = start
        while self._kinds[here] != EXIT:
            at = tried[here]
            if at < len(order):
                tried[here] = at + 1
                way = len(SIDES) * here + order[at]
                other = here + self._steps[order[at]]
                if not self._passed[way] and self._kinds[other] != CLOSED and other not in tried:
                    tried[other] = 0
                    ways.append(way)
                    here = other
            elif ways:
                here = ways.pop() // len(SIDES)
            else:
                self._close(tried)
                return None
        return ways

    def _close(self, numbers):
        """Close these cells: no later stream can leave them, so that no search needs to enter them again."""
        for number in numbers:
            self._kinds[number] = CLOSED

    def _pass_ways(self, ways):
        """Let one more stream pass the ways; two streams that pass a side in opposite directions pass it no longer."""
        for way in ways:
            back = len(SIDES) * self._end_of(way) + (way + 2) % len(SIDES)
            if self._passed[back]:
                self._passed[back] = False
            else:
                self._passed[way] = True

    def _take_stream(self, first, passed):
        """Return the cells of a stream that begins at the first cell, and take its ways from those that are passed."""
        entry = first + self._span if first < self._span else first
        following = {}
        here = entry
        while self._kinds[here] != EXIT:
            ways = [way for way in self._ways_from(here) if passed[way]]
            passed[ways[0]] = False
            # Where the stream comes back to a cell, the way of the last time counts, so that no cell occurs twice.
            following[here] = self._end_of(ways[0])
            here = following[here]
        numbers = [entry] if first == entry else [first, entry]
        while numbers[-1] in following:
            numbers.append(following[numbers[-1]])
        return [self._cell_at(number) for number in numbers]

    def _ways_from(self, number):
        """Return the four ways from a cell."""
        return [len(SIDES) * number + side for side in range(len(SIDES))]

    def _end_of(self, way):
        """Return the cell to which the way leads."""
        return way // len(SIDES) + self._steps[way % len(SIDES)]

    def _number_of(self, cell):
        """Return the number of a cell of the box or around it."""
        x, y = cell
        return (x + 1) * self._span + y - self._south

    def _cell_at(self, number):
        """Return the cell that has this number."""
        return (number // self._span - 1, number % self._span + self._south)


def _kinds(basin, box):
    """Return the kinds of the cells of the box and around it, in ascending order of the cells."""
    rows = range(box.south - 1, box.north + 2)
    kinds = [CLOSED for _ in rows]
    for x in range(box.east + 2):
        kinds.extend([OPEN if basin.is_open((x, y)) else EXIT for y in rows])
    return kinds
