import unittest

from support import FAR, PlayCase, scattered
from test_patterns import wanted_lacking
from test_walls import wanted_columns, wanted_place, wanted_wall_cell

from neverpenned.cells import touching
from neverpenned.errors import BadCell, BadNumber, NotHeld, Outside, TooMany
from neverpenned.pens import is_held, lacking_cells
from neverpenned.walls import corner_cells, wall_cells

FAR_CELLS = ((121, 0), (0, 121), (-121, 0), (0, -121), (FAR, 0), (0, -FAR))
ALL = [(x, y) for x in range(-65, 66) for y in range(-65, 66)]


def wanted_lacks(half, cell, struck):
    """The cells that lack, or the level of the first wall that lacks more, by the words of the document."""
    cells = []
    for wall in range(4):
        level, column = wanted_place(half, wall, cell)
        lacks = wanted_lacking(level, wanted_columns(half, wall, cell, struck))
        if lacks is None:
            return level
        cells.extend(wanted_wall_cell(half, wall, column + lack) for lack in lacks)
    return cells


class HeldTest(PlayCase):
    def test_far_from_all_walls(self):
        for half in (11, 12, 65):
            for cell in ((0, 0), (half - 6, 0), (6 - half, half - 6), (half - 6, 6 - half)):
                self.same((is_held(half, cell, []), lacking_cells(half, cell, [])), (True, []))
        # At level 5 one cell is needed.
        self.same((is_held(65, (0, 60), []), lacking_cells(65, (0, 60), [])), (False, [(0, 65)]))
        self.same((is_held(65, (0, 60), [(0, 65)]), lacking_cells(65, (0, 60), [(0, 65)])), (True, []))

    def test_one_wall_that_lacks(self):
        self.same(lacking_cells(30, (5, 26), [(5, 30)]), [(6, 30)])
        self.same(lacking_cells(30, (5, 26), [(4, 30)]), [(5, 30)])
        self.same(lacking_cells(30, (-26, 5), [(-30, 6)]), [(-30, 5)])
        self.same(lacking_cells(30, (-27, 5), [(-30, 6)]), [(-30, 4)])
        self.same(lacking_cells(30, (5, -27), [(6, -30), (5, -30)]), [(4, -30)])
        self.same(lacking_cells(30, (29, 3), [(30, 3), (30, 2)]), [(30, 4)])
        for cell, struck in (((5, 26), [(5, 30)]), ((29, 3), [(30, 3), (30, 2)])):
            self.same(is_held(30, cell, struck), False)
            self.same(is_held(30, cell, [*struck, *lacking_cells(30, cell, struck)]), True)

    def test_several_walls_that_lack(self):
        corners = corner_cells(20)
        # Each of two walls lacks a cell of its own.
        struck = [cell for cell in corners if cell not in ((15, 20), (20, 15))]
        self.same(lacking_cells(20, (15, 15), struck), [(15, 20), (20, 15)])
        # The cell at the end of both walls lacks in both.
        struck = [cell for cell in corners if cell != (20, 20)]
        self.same(lacking_cells(20, (19, 19), struck), [(20, 20), (20, 20)])
        self.same(lacking_cells(20, (-19, 19), [cell for cell in corners if cell != (-20, 20)]), [(-20, 20), (-20, 20)])
        self.same(is_held(20, (19, 19), struck), False)
        self.same(is_held(20, (19, 19), corners), True)

    def test_walls_that_lack_too_much(self):
        self.refused(NotHeld, {"level": 4}, lacking_cells, 30, (0, 26), [])
        self.refused(NotHeld, {"level": 1}, lacking_cells, 30, (0, 29), [(0, 30)])
        self.refused(NotHeld, {"level": 3}, lacking_cells, 30, (0, -27), [(2, -30)])
        # The first wall of two is told, also if one of the walls lacks one cell alone.
        self.refused(NotHeld, {"level": 2}, lacking_cells, 30, (-27, 28), [])
        self.refused(NotHeld, {"level": 3}, lacking_cells, 30, (-27, 25), [])
        self.same(is_held(30, (-27, 28), []), False)

    def test_the_words_of_the_document(self):
        counts = [0, 0, 0, 0]
        for half in (10, 14, 65):
            cells = wall_cells(half)
            numbers = scattered(6000, 2 ** 20, seed=half + 5)
            for at in range(0, 6000, 20):
                chosen = scattered(len(cells), 8, seed=at + 3)
                struck = [cell for cell, number in zip(cells, chosen) if number < at // 20 % 9]
                x, y = (numbers[at + 18] % (2 * half - 1) + 1 - half, numbers[at + 19] % 6)
                for cell in ((x, half - 1 - y), (y + 1 - half, x), (x, y + 1 - half), (half - 1 - y, x)):
                    wanted = wanted_lacks(half, cell, struck)
                    self.same(is_held(half, cell, struck), wanted == [])
                    if isinstance(wanted, int):
                        self.refused(NotHeld, {"level": wanted}, lacking_cells, half, cell, struck)
                        counts[3] += 1
                    else:
                        self.same(lacking_cells(half, cell, struck), wanted)
                        counts[len(wanted)] += 1
        self.assertGreater(min(counts), 20)

    def test_a_held_pen_has_no_way_out(self):
        """If the pen is held for a cell of level 1, no cell of the wall that touches it is free."""
        held = 0
        for at in range(300):
            cells = wall_cells(10)
            struck = [cell for cell, number in zip(cells, scattered(len(cells), 8, seed=at)) if number < 7]
            for cell in [(x, y) for x in range(-9, 10) for y in range(-9, 10) if 9 in (abs(x), abs(y))]:
                if is_held(10, cell, struck):
                    held += 1
                    beside = [other for other in touching(cell) if other in cells]
                    self.assertTrue(all(other in struck for other in beside))
        self.assertGreater(held, 100)

    def test_orders_and_repeated_cells(self):
        struck = [(5, 30), (5, 30), (0, 0), (120, 120)]
        for told in (struck, struck[::-1], tuple(struck)):
            self.same((is_held(30, (5, 26), told), lacking_cells(30, (5, 26), told)), (False, [(6, 30)]))
        self.same(struck, [(5, 30), (5, 30), (0, 0), (120, 120)])
        self.fresh(lacking_cells, 30, (5, 26), struck)


class WrongArgumentsTest(PlayCase):
    def test_wrong_arguments(self):
        for call in (is_held, lacking_cells):
            for half in (9, 66, FAR, -FAR):
                self.refused(BadNumber, {"number": half}, call, half, (FAR, 0), ALL)
            for cell in FAR_CELLS:
                self.refused(BadCell, {"cell": cell}, call, 10, cell, [(500, 500)] * 17162)
                self.refused(BadCell, {"cell": cell}, call, 10, (10, 0), [(0, 10), cell, (500, 500)])
            self.refused(TooMany, {"most": 17161}, call, 10, (10, 0), [*ALL, (500, 500)])
            self.refused(TooMany, {"most": 17161}, call, 65, (0, 0), [(0, 0)] * 17162)
            for cell in ((10, 0), (0, -10), (10, 10), (11, 0), (0, 120), (-120, -120)):
                self.refused(Outside, {"cell": cell}, call, 10, cell, [])
                self.refused(Outside, {"cell": cell}, call, 10, cell, ALL)
            self.same(call(65, (64, 64), ALL), True if call is is_held else [])


if __name__ == "__main__":
    unittest.main()
