"""What the tests share: checks of errors and of the kinds of values."""

import unittest

from neverpenned.errors import PlayError

FAR = 10 ** 30


def kinds(value):
    """The value with the kind of every part of it told, so that 1, True and (1,), [1] differ."""
    if isinstance(value, (list, tuple)):
        return (type(value).__name__, [kinds(part) for part in value])
    if isinstance(value, dict):
        return (type(value).__name__, [kinds(item) for item in value.items()])
    return (type(value).__name__, value)


def scattered(many, modulus, seed=1):
    """A list of many numbers from 0 to modulus - 1, the same ones in each run."""
    numbers = []
    for _ in range(many):
        seed = (seed * 1103515245 + 12345) % 2 ** 31
        numbers.append((seed >> 8) % modulus)
    return numbers


def grid_cells(code, width, height):
    """The cells of a width by height grid at (0, 0) whose bits are set in the code."""
    return [(at // height, at % height) for at in range(width * height) if code >> at & 1]


def around(west, south, east, north):
    """The edges around a box, with the box on the left hand, from its north-west corner on."""
    return [*[((west, y), (west - 1, y)) for y in range(north, south - 1, -1)],
            *[((x, south), (x, south - 1)) for x in range(west, east + 1)],
            *[((east, y), (east + 1, y)) for y in range(south, north + 1)],
            *[((x, north), (x, north + 1)) for x in range(east, west - 1, -1)]]


def backward(edges):
    """The same walk the other way round."""
    return [(right, left) for left, right in reversed(edges)]


def strolls(many, length):
    """Closed walks that wander about and then go straight back, each a list of edges."""
    numbers = scattered(many * length, 4, seed=7)
    for at in range(many):
        yield closed_walk([((1, 0), (0, 1), (-1, 0), (0, -1))[n] for n in numbers[at * length:at * length + length]])


def closed_walk(headings):
    """The edges of a walk from the corner (0, 0) in these headings, and then back: first east or west, then north."""
    east, north = sum(x for x, y in headings), sum(y for x, y in headings)
    back = [(-1 if east > 0 else 1, 0)] * abs(east) + [(0, -1 if north > 0 else 1)] * abs(north)
    x, y, edges = 0, 0, []
    for a, b in [*headings, *back]:
        sides = {(1, 0): ((x, y), (x, y - 1)), (0, 1): ((x - 1, y), (x, y)),
                 (-1, 0): ((x - 1, y - 1), (x - 1, y)), (0, -1): ((x, y - 1), (x - 1, y - 1))}
        edges.append(sides[a, b])
        x, y = x + a, y + b
    return edges


def wanted_winding(edges, cell):
    """The winding number by the words of the document."""
    north = [left for left, right in edges if right == (left[0] + 1, left[1])]
    south = [right for left, right in edges if right == (left[0] - 1, left[1])]
    return (sum(u >= cell[0] and y == cell[1] for u, y in north)
            - sum(u >= cell[0] and y == cell[1] for u, y in south))


def wanted_windings(edges):
    """The winding numbers that are not 0, by ascending cells, found cell by cell."""
    xs, ys = [x for edge in edges for x, y in edge], [y for edge in edges for x, y in edge]
    found = {}
    for x in range(min(xs, default=0) - 1, max(xs, default=0) + 2):
        for y in range(min(ys, default=0) - 1, max(ys, default=0) + 2):
            number = wanted_winding(edges, (x, y))
            if number != 0:
                found[x, y] = number
    return found


def sides_at(cell):
    """The four neighbours of a cell."""
    x, y = cell
    return [(x + 1, y), (x, y + 1), (x - 1, y), (x, y - 1)]


class PlainBasin:
    """The parts of a basin by the words of the document, found with nothing of the package."""

    def __init__(self, struck, barred=()):
        self.sources = sorted({cell for cell in struck if 0 <= cell[0] <= 39 and cell not in barred})
        self.rows, self.open = [], set()
        if self.sources:
            heights = [y for x, y in self.sources]
            self.rows = list(range(min(heights), max(heights) + 1))
            columns = range(max(x for x, y in self.sources) + 1)
            self.open = {(x, y) for x in columns for y in self.rows} - set(barred)

    def is_exit(self, cell, other):
        return cell in self.open and other in sides_at(cell) and other[0] >= 0 and other not in self.open

    def cut_size(self, cut):
        return (sum((0, y) not in cut for y in self.rows) + 2 * sum(cell not in cut for cell in self.sources)
                + sum(other[0] >= 0 and other not in cut for cell in cut for other in sides_at(cell)))

    def all_cuts(self):
        """All lots of open cells, each an ascending tuple."""
        cells = sorted(self.open)
        return [tuple(cell for at, cell in enumerate(cells) if code >> at & 1) for code in range(2 ** len(cells))]

    def least_cuts(self):
        sizes = {cut: self.cut_size(cut) for cut in self.all_cuts()}
        return sorted(cut for cut in sizes if sizes[cut] == min(sizes.values()))

    def is_stream(self, cells):
        if len(cells) < 2 or any(cells[at] not in sides_at(cells[at - 1]) for at in range(1, len(cells))):
            return False
        first, *between, last = cells
        on_shore = first[0] == -1 and first[1] in self.rows
        if not (on_shore or first in self.sources) or not all(cell in self.open for cell in between):
            return False
        # A stream of two cells from the shore ends at a barred cell (0, y), which is in the box.
        return self.is_exit(cells[-2], last) or len(cells) == 2 and on_shore and last[0] == 0 and last not in self.open

    def is_valid(self, streams):
        firsts = [cells[0] for cells in streams if cells]
        sides = [frozenset(cells[at - 1:at + 1]) for cells in streams for at in range(1, len(cells))]
        return (all(self.is_stream(cells) for cells in streams) and len(sides) == len(set(sides))
                and all(firsts.count(first) <= (1 if first[0] < 0 else 2) for first in firsts))

    def rest_steps(self, streams):
        """For each open cell the cells to which rest steps lead."""
        passed = {(cells[at - 1], cells[at]) for cells in streams for at in range(1, len(cells))}
        return {cell: [other for other in sides_at(cell) if (other in self.open or self.is_exit(cell, other))
                       and (cell, other) not in passed] for cell in self.open}

    def fed_cells(self, streams):
        firsts = [cells[0] for cells in streams]
        waiting = [cell for cell in self.sources if firsts.count(cell) < 2]
        waiting.extend((0, y) for y in self.rows if (-1, y) not in firsts and (0, y) in self.open)
        steps, fed = self.rest_steps(streams), set(waiting)
        while waiting:
            for other in steps[waiting.pop()]:
                if other in self.open and other not in fed:
                    fed.add(other)
                    waiting.append(other)
        return fed

    def leaking_cells(self, streams):
        """The open cells from which rest steps lead to an exit, found by going on until nothing is added."""
        steps, leaking, before = self.rest_steps(streams), set(), None
        while leaking != before:
            before = set(leaking)
            leaking |= {cell for cell in self.open
                        if any(other in leaking or other not in self.open for other in steps[cell])}
        return leaking

    def are_full(self, streams):
        """Whether the valid streams are full, by point 22: no fed cell has a rest step to an exit."""
        firsts, steps = [cells[0] for cells in streams], self.rest_steps(streams)
        return (all(other in self.open for cell in self.fed_cells(streams) for other in steps[cell])
                and all((-1, y) in firsts for y in self.rows if (0, y) not in self.open))


def other_streams(plain, firsts):
    """Full streams, where as many as can begin at each cell of the list, in its order (a source stands there twice)."""
    passed, begun = set(), []
    for first in firsts:
        entry = (0, first[1]) if first[0] < 0 else first
        if entry not in plain.open:
            begun.append(first)
            continue
        before, waiting, last = {entry: None}, [entry], None
        while waiting and last is None:
            cell = waiting.pop()
            for other in sides_at(cell):
                if other[0] >= 0 and other not in before and (cell, other) not in passed and last is None:
                    before[other] = cell
                    if other in plain.open:
                        waiting.append(other)
                    else:
                        last = other
        if last is not None:
            begun.append(first)
            while before[last] is not None:
                step = (before[last], last)
                passed ^= {step[::-1]} if step[::-1] in passed else {step}
                last = before[last]
    return [taken(plain, first, passed) for first in begun]


def taken(plain, first, passed):
    """The cells of a stream from this first cell on, whose steps are taken away from those that are passed."""
    cells = [first, (0, first[1])] if first[0] < 0 else [first]
    while cells[-1] in plain.open:
        step = min(step for step in passed if step[0] == cells[-1])
        passed.remove(step)
        cells.append(step[1])
    return cells


def wanted_growth(extra):
    """The growth of the bank with these extra cells, by the words of the document."""
    cells = set(extra)
    sides = [other for cell in cells for other in sides_at(cell) if other[0] >= 0 and other not in cells]
    return len(sides) - sum(x == 0 for x, y in cells)


def wanted_count(extra, struck):
    """The count of the bank with these extra cells, by the words of the document."""
    return sum(0 <= x <= 39 and (x, y) in set(extra) for x, y in set(struck))


def small_lists(many, seed=3):
    """Lists of struck and of barred cells, each pair with at most nine open cells between them."""
    for at, code in enumerate(scattered(many, 2 ** 18, seed=seed)):
        width, height = ((3, 3), (2, 4), (1, 9), (4, 2), (9, 1))[at % 5]
        struck = [cell for cell in grid_cells(code, width, height) if cell != (at % width, at % height)]
        barred = grid_cells(code >> 9 & code >> 4 & code >> 2, width, height)
        yield struck, [*barred, *[(-1, 1), (0, 0), (3, 1), (1, 3)][:at // 5 % 5]]


class PlayCase(unittest.TestCase):
    """A test case that compares kinds as well as values, and errors with their fields."""

    def same(self, value, expected):
        """The value is equal to the expected one, part by part of the same kind."""
        self.assertEqual(kinds(value), kinds(expected))

    def refused(self, error, fields, call, *args, **named):
        """The call raises exactly this error, with exactly these fields."""
        with self.assertRaises(PlayError) as caught:
            call(*args, **named)
        self.assertIs(type(caught.exception), error)
        told = vars(caught.exception)
        self.assertEqual({name: kinds(told[name]) for name in told}, {name: kinds(fields[name]) for name in fields})

    def fresh(self, call, *args):
        """A list that the call returns can be changed without changing what it returns next."""
        first = call(*args)
        kept = list(first)
        first.append("changed")
        first.reverse()
        self.assertEqual(call(*args), kept)
