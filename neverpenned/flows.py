"""Flows: the sides between the cells of a basin that streams pass, and how streams are added."""

from neverpenned.cells import SIDES

# The kinds of the cells of a flow.
OPEN = 0
EXIT = 1
SHORE = 2


class Flow:
    """Streams of a basin that has a box, at first none.

    The cells of the box and those around it have numbers, in ascending order of the cells. A way leads from a cell over
    one of its sides; its number is four times that of the cell plus the index of the step in SIDES.
    """

    def __init__(self, basin):
        box = basin.box
        self._south = box.south - 1
        self._span = box.height + 2
        self._steps = [east * self._span + north for east, north in SIDES]
        self._kinds = [_kind(basin, (x, y)) for x in range(-1, box.east + 2)
                       for y in range(box.south - 1, box.north + 2)]
        self._passed = [False] * (len(SIDES) * len(self._kinds))
        self._outlets = [way for number, kind in enumerate(self._kinds) if kind == OPEN
                         for way in self._ways_from(number) if self._kinds[self._end_of(way)] == EXIT]
        self._begun = []

    def add_streams(self, cells):
        """Begin as many streams as can be at the cells, at each of them as often as the list has it."""
        waiting = [self._number_of(cell) for cell in cells]
        while waiting:
            waiting = self._add_nearing(waiting)

    def count_streams(self):
        """Return the number of the streams."""
        return len(self._begun)

    def all_streams(self):
        """Return the streams as lists of cells, in ascending order of their first cells."""
        passed = list(self._passed)
        return [self._take_stream(first, passed) for first in sorted(self._begun)]

    def _add_nearing(self, firsts):
        """Begin streams that come nearer to an exit with each step; return the first cells that are to wait."""
        distances = self._exit_distances()
        sides = [0] * len(self._kinds)
        waiting = []
        for first in firsts:
            entry = self._entry(first)
            # From where no exit is reached now, none is reached later: other streams cannot come there.
            if distances[entry] is not None:
                ways = self._nearing_ways(entry, distances, sides)
                if ways is None:
                    waiting.append(first)
                else:
                    self._begun.append(first)
                    self._pass_ways(ways)
        return waiting

    def _exit_distances(self):
        """Return for each cell how many rest steps at least lead from it to an exit, or None if none do."""
        distances = [0 if kind == EXIT else None for kind in self._kinds]
        ways = self._outlets
        distance = 1
        while ways:
            reached = []
            for way in ways:
                number = way // len(SIDES)
                if distances[number] is None and not self._passed[way]:
                    distances[number] = distance
                    reached.append(number)
            ways = [way for number in reached for way in self._ways_to(number)]
            distance += 1
        return distances

    def _nearing_ways(self, entry, distances, sides):
        """Return the ways of a new stream from the entry on, or None if it cannot always come nearer to an exit.

        `sides` tells for each cell how many of its sides are known to be of no use.
        """
        ways = []
        here = entry
        while self._kinds[here] == OPEN:
            if sides[here] == len(SIDES):
                if len(ways) == 0:
                    return None
                here = ways.pop() // len(SIDES)
                sides[here] += 1
            else:
                way = len(SIDES) * here + sides[here]
                other = self._end_of(way)
                if distances[other] == distances[here] - 1 and not self._passed[way]:
                    ways.append(way)
                    here = other
                else:
                    sides[here] += 1
        return ways

    def _pass_ways(self, ways):
        """Let one more stream pass the ways; two streams that pass a side in opposite directions pass it no longer."""
        for way in ways:
            back = len(SIDES) * self._end_of(way) + (way + 2) % len(SIDES)
            if self._passed[back]:
                self._passed[back] = False
            else:
                self._passed[way] = True

    def _take_stream(self, first, passed):
        """Return the cells of a stream that begins at the first cell, and take its ways from those that are passed."""
        entry = self._entry(first)
        following = {}
        here = entry
        while self._kinds[here] == OPEN:
            ways = [way for way in self._ways_from(here) if passed[way]]
            passed[ways[0]] = False
            # Where the stream comes back to a cell, the way of the last time counts, so that no cell occurs twice.
            following[here] = self._end_of(ways[0])
            here = following[here]
        numbers = [entry] if first == entry else [first, entry]
        while numbers[-1] in following:
            numbers.append(following[numbers[-1]])
        return [self._cell_at(number) for number in numbers]

    def _entry(self, first):
        """Return the first cell of a stream that is not on the shore, where `first` is its first cell."""
        if self._kinds[first] == SHORE:
            return first + self._span
        return first

    def _ways_from(self, number):
        """Return the four ways from a cell."""
        return [len(SIDES) * number + side for side in range(len(SIDES))]

    def _ways_to(self, number):
        """Return the ways to an open cell from open neighbours."""
        return [len(SIDES) * (number - step) + side for side, step in enumerate(self._steps)
                if self._kinds[number - step] == OPEN]

    def _end_of(self, way):
        """Return the cell to which the way leads."""
        return way // len(SIDES) + self._steps[way % len(SIDES)]

    def _number_of(self, cell):
        """Return the number of a cell of the box or around it."""
        x, y = cell
        return (x + 1) * self._span + y - self._south

    def _cell_at(self, number):
        """Return the cell that has this number."""
        return (number // self._span - 1, number % self._span + self._south)


def _kind(basin, cell):
    """Return the kind of a cell of the box or around it."""
    if cell[0] < 0:
        return SHORE
    return OPEN if basin.is_open(cell) else EXIT
