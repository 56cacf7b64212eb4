"""Small boards that the tests share, and their positions and ranks by the words of the document."""

from itertools import combinations

from plays import apart
from support import grid_cells, scattered

# Boards of seven cells: a ring without a cell, a cross, a row, a block, a stair, and cells that lie apart.
SEVENS = ([(0, 0), (1, 0), (2, 0), (2, 1), (2, 2), (1, 2), (0, 2)],
          [(0, 0), (1, 0), (-1, 0), (0, 1), (0, -1), (2, 0), (0, 2)],
          [(x, 0) for x in range(7)],
          [(0, 0), (1, 0), (2, 0), (0, 1), (1, 1), (2, 1), (0, 2)],
          [(0, 0), (1, 0), (1, 1), (2, 1), (2, 2), (3, 2), (3, 3)],
          [(120, 120), (119, 118), (117, 120), (-120, -120), (-118, -119), (0, 0), (115, 115)])


class PlainBoard:
    """A small board by the words of point 40; whether the breaker succeeds is found by trying everything."""

    def __init__(self, cells, outs, power):
        self.cells, self.outs, self.power = sorted(set(cells)), set(outs), power
        self.kept = {}

    def positions(self):
        lots = [lot for many in range(len(self.cells) + 1) for lot in combinations(self.cells, many)]
        return sorted((lot, cell) for lot in lots for cell in self.cells if cell not in lot and cell not in self.outs)

    def free(self, position):
        struck, cell = position
        return [other for other in self.cells if other not in struck and other != cell]

    def landings(self, position, strike):
        return [other for other in self.free(position) if other != strike and apart(other, position[1]) <= self.power]

    def after(self, position, strike, landing):
        return (tuple(sorted([*position[0], strike])), landing)

    def succeeds(self, position, most):
        """Whether the breaker pens the runner after at most so many further strikes."""
        key = (position, most)
        if key not in self.kept:
            self.kept[key] = (not self.free(position)
                              or most > 0 and any(self.is_good(position, strike, most) for strike in self.free(position)))
        return self.kept[key]

    def is_good(self, position, strike, most):
        """Whether the breaker succeeds if it begins with this strike."""
        return all(landing not in self.outs and self.succeeds(self.after(position, strike, landing), most - 1)
                   for landing in self.landings(position, strike))

    def rank(self, position):
        return next((most for most in range(8) if self.succeeds(position, most)), None)

    def is_right_for_breaker(self, start, plan):
        """Point 41, word by word."""
        def has(position):
            return position in plan or not self.free(position)
        known = self.positions()
        return has(((), start)) and all(
            position in known and plan[position] in self.free(position)
            and all(landing not in self.outs and has(self.after(position, plan[position], landing))
                    for landing in self.landings(position, plan[position])) for position in plan)

    def is_right_for_runner(self, start, plan):
        def covers(position):
            return self.free(position) != [] and all((*position, strike) in plan for strike in self.free(position))
        known = self.positions()
        return covers(((), start)) and all(
            (struck, cell) in known and strike in self.free((struck, cell))
            and plan[struck, cell, strike] in self.landings((struck, cell), strike)
            and (plan[struck, cell, strike] in self.outs
                 or covers(self.after((struck, cell), strike, plan[struck, cell, strike])))
            for struck, cell, strike in plan)


def some_outs(cells, seed):
    """A few lists of ways out among the cells, in different orders, one with a cell twice."""
    picked = [cells[number % len(cells)] for number in scattered(4, 100, seed=seed)]
    return [[], picked[:1], picked[1:3], [*picked[:1], *cells[::-1][:2]][:7], cells]


def small_boards():
    """Boards of one to six cells, each with some ways out and a power."""
    for code in range(1, 64):
        cells = grid_cells(code, 2, 3)
        for at, outs in enumerate(some_outs(cells, code)):
            yield cells, outs, (1, 1, 2, 1, 3)[at]
    for code in (5, 9, 65, 73, 325, 341, 297, 87):
        cells = grid_cells(code, 3, 3)
        for outs in some_outs(cells, code):
            yield cells, outs, code % 2 + 1
