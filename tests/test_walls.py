import unittest

from support import FAR, PlayCase, scattered

from neverpenned.cells import touching
from neverpenned.errors import BadCell, BadNumber, Outside, TooMany
from neverpenned.walls import (column_of, corner_cells, is_inside, is_outer, level_of, struck_columns, wall_cell,
                               wall_cells)

HALVES = (10, 11, 30, 64, 65)
FAR_CELLS = ((121, 0), (0, 121), (-121, 0), (0, -121), (FAR, 0), (0, -FAR))


def wanted_wall_cell(h, wall, c):
    return [(c, h), (-h, c), (-c, -h), (h, -c)][wall]


def wanted_place(h, wall, cell):
    """The level and the column, by the words of the document."""
    x, y = cell
    return [(h - y, x), (h + x, y), (h + y, -x), (h - x, -y)][wall]


def wanted_columns(h, wall, cell, struck):
    column = wanted_place(h, wall, cell)[1]
    return [k for k in range(-2, 3) if not -h <= column + k <= h or wanted_wall_cell(h, wall, column + k) in struck]


class PenTest(PlayCase):
    def test_inside_and_outer_cells(self):
        for half in HALVES:
            for x in (-120, -half - 1, -half, 1 - half, 0, 7, half - 1, half, half + 1, 120):
                for y in (-120, -half - 1, -half, 1 - half, -3, 0, half - 1, half, half + 1, 120):
                    in_pen = -half <= x <= half and -half <= y <= half
                    outer = in_pen and (x in (half, -half) or y in (half, -half))
                    self.same((is_inside(half, (x, y)), is_outer(half, (x, y))), (in_pen and not outer, outer))

    def test_all_cells_of_a_pen(self):
        cells = [(x, y) for x in range(-12, 13) for y in range(-12, 13)]
        self.same(sum(is_inside(10, cell) for cell in cells), 19 * 19)
        self.same([cell for cell in cells if is_outer(10, cell)], wall_cells(10))

    def test_wall_cells(self):
        for half in HALVES:
            cells = wall_cells(half)
            side = range(-half, half + 1)
            self.same(cells, sorted({wanted_wall_cell(half, wall, column) for wall in range(4) for column in side}))
            self.same(len(cells), 8 * half)
        self.fresh(wall_cells, 10)

    def test_corner_cells(self):
        for half in HALVES:
            columns = [c for c in range(-half, half + 1) if c <= -half + 7 or c >= half - 7]
            wanted = sorted({wanted_wall_cell(half, wall, c) for wall in range(4) for c in columns})
            self.same(corner_cells(half), wanted)
            self.same(len(wanted), 60)
            # A corner cell is a wall cell, too.
            self.assertTrue(all(is_outer(half, cell) for cell in wanted))
        self.fresh(corner_cells, 10)

    def test_wrong_half_sizes(self):
        for half in (9, 66, 0, -10, FAR):
            for call, args in ((is_inside, ((FAR, 0),)), (is_outer, ((FAR, 0),)), (wall_cell, (9, 999)),
                               (level_of, (9, (FAR, 0))), (column_of, (9, (FAR, 0))), (wall_cells, ()),
                               (corner_cells, ()), (struck_columns, (9, (FAR, 0), [(FAR, 0)]))):
                self.refused(BadNumber, {"number": half}, call, half, *args)

    def test_wrong_cells(self):
        for cell in FAR_CELLS:
            self.refused(BadCell, {"cell": cell}, is_inside, 10, cell)
            self.refused(BadCell, {"cell": cell}, is_outer, 65, cell)


class WallTest(PlayCase):
    def test_wall_cell(self):
        for half in HALVES:
            for wall in range(4):
                for column in (-half, 1 - half, -1, 0, 5, half):
                    self.same(wall_cell(half, wall, column), wanted_wall_cell(half, wall, column))
            # The cells at the ends belong to two walls.
            for wall in range(4):
                self.same(wall_cell(half, wall, -half), wall_cell(half, (wall + 1) % 4, half))

    def test_wrong_walls_and_columns(self):
        for wall in (-1, 4, FAR, -FAR):
            self.refused(BadNumber, {"number": wall}, wall_cell, 10, wall, 999)
            for call in (level_of, column_of):
                self.refused(BadNumber, {"number": wall}, call, 10, wall, (FAR, 0))
            self.refused(BadNumber, {"number": wall}, struck_columns, 10, wall, (FAR, 0), [(FAR, 0)])
        for half in HALVES:
            for column in (half + 1, -half - 1, FAR, -FAR):
                for wall in range(4):
                    self.refused(BadNumber, {"number": column}, wall_cell, half, wall, column)

    def test_levels_and_columns(self):
        for half in (10, 65):
            most = half - 1
            for cell in ((0, 0), (most, most), (-most, most), (3, -5), (-most, -most), (most, 2)):
                for wall in range(4):
                    self.same((level_of(half, wall, cell), column_of(half, wall, cell)), wanted_place(half, wall, cell))
        self.same([level_of(10, wall, (2, 3)) for wall in range(4)], [7, 12, 13, 8])
        self.same([column_of(10, wall, (2, 3)) for wall in range(4)], [2, 3, -2, -3])

    def test_cells_that_are_not_inside(self):
        for cell in ((10, 0), (0, -10), (10, 10), (11, 0), (0, 120), (-120, -120)):
            for wall in range(4):
                self.refused(Outside, {"cell": cell}, level_of, 10, wall, cell)
                self.refused(Outside, {"cell": cell}, column_of, 10, wall, cell)
                self.refused(Outside, {"cell": cell}, struck_columns, 10, wall, cell, [])
                self.refused(BadCell, {"cell": (0, 500)}, struck_columns, 10, wall, cell, [(0, 500)])
                self.refused(TooMany, {"most": 17161}, struck_columns, 10, wall, cell, [(0, 500)] * 17162)
        for cell in FAR_CELLS:
            self.refused(BadCell, {"cell": cell}, level_of, 65, 0, cell)
            self.refused(BadCell, {"cell": cell}, column_of, 65, 3, cell)


class StruckColumnsTest(PlayCase):
    def test_struck_columns(self):
        self.same(struck_columns(10, 0, (0, 5), []), [])
        self.same(struck_columns(10, 0, (0, 5), [(2, 10), (-1, 10), (3, 10), (0, 9), (-2, -10)]), [-1, 2])
        self.same(struck_columns(10, 1, (0, 5), ((-10, 5), (-10, 7), (-10, 8))), [0, 2])
        self.same(struck_columns(10, 2, (0, 5), [(1, -10), (-2, -10)]), [-1, 2])
        self.same(struck_columns(10, 3, (0, 5), [(10, 5), (10, 4), (10, 3), (10, 6), (10, 7)]), [-2, -1, 0, 1, 2])

    def test_columns_beyond_the_ends(self):
        self.same(struck_columns(10, 0, (9, 0), []), [2])
        self.same(struck_columns(10, 0, (8, 0), []), [])
        self.same(struck_columns(10, 0, (-9, 0), []), [-2])
        self.same(struck_columns(10, 2, (-9, 0), []), [2])
        self.same(struck_columns(10, 3, (0, 9), [(10, 10)]), [-2, -1])
        self.same(struck_columns(65, 1, (0, 64), [(-65, 65)]), [1, 2])

    def test_the_words_of_the_document(self):
        for half in (10, 11, 65):
            cells = wall_cells(half)
            numbers = scattered(3000, 2 ** 20, seed=half)
            for at in range(0, 3000, 30):
                struck = [cells[number % len(cells)] for number in numbers[at:at + 28]] + [(0, 0), (5, 5)]
                struck = struck + cells[::2] if at % 60 else struck
                x, y = numbers[at + 28] % (2 * half - 1) + 1 - half, numbers[at + 29] % (2 * half - 1) + 1 - half
                for cell in ((x, y), (half - 1, y), (x, 1 - half), (1 - half, half - 1)):
                    for wall in range(4):
                        self.same(struck_columns(half, wall, cell, struck), wanted_columns(half, wall, cell, struck))

    def test_all_corner_cells_struck(self):
        """Then all patterns of a cell with two low levels are contained in the struck columns."""
        patterns = {1: (-1, 0, 1), 2: (-2, -1, 0, 1, 2), 3: (-2, -1, 0, 1, 2), 4: (-1, 0, 1), 5: (0,)}
        for half in (10, 11, 30, 65):
            corners = corner_cells(half)
            for x in range(1 - half, half):
                for y in [*range(1 - half, 7 - half), *range(half - 6, half)]:
                    low = [wall for wall in range(4) if wanted_place(half, wall, (x, y))[0] <= 5]
                    for wall in low if len(low) == 2 else ():
                        columns = struck_columns(half, wall, (x, y), corners)
                        self.assertTrue(set(patterns[level_of(half, wall, (x, y))]) <= set(columns))

    def test_the_length(self):
        struck = [(x, y) for x in range(-65, 66) for y in range(-65, 66)]
        self.same(len(struck), 17161)
        self.same(struck_columns(65, 0, (0, 0), struck), [-2, -1, 0, 1, 2])
        self.same(struck_columns(65, 0, (0, 0), [(0, 65)] * 17161), [0])
        self.refused(TooMany, {"most": 17161}, struck_columns, 65, 0, (0, 0), [*struck, (0, 0)])
        for cell in FAR_CELLS:
            self.refused(BadCell, {"cell": cell}, struck_columns, 65, 0, (0, 0), [(0, 65), cell, (500, 500)])
            self.refused(BadCell, {"cell": cell}, struck_columns, 65, 0, cell, [(500, 500)] * 17162)

    def test_results_are_new_and_nothing_is_changed(self):
        self.fresh(struck_columns, 10, 0, (9, 0), [(9, 10)])
        struck = [(9, 10), (0, 0), (9, 10)]
        struck_columns(10, 0, (9, 0), struck)
        self.same(struck, [(9, 10), (0, 0), (9, 10)])
        self.same(len(touching((0, 0))), 8)


if __name__ == "__main__":
    unittest.main()
