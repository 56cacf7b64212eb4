import unittest

from support import FAR, PlainBasin, PlayCase, grid_cells, scattered

from neverpenned.basins import Basin
from neverpenned.cuts import cut_size, least_cuts
from neverpenned.errors import BadCell, NotOpen, TooMany, TooMuch

LARGE = Basin([(39, -120), (0, 120)])


def small_basins():
    """Lists of struck and of barred cells in and around a box of at most 3 by 3 cells."""
    for at, code in enumerate(scattered(220, 2 ** 18, seed=3)):
        struck = grid_cells(code & code >> 9 | 1 << at % 9, 3, 3)
        barred = [cell for cell in grid_cells(code >> 5 & code, 3, 3) if cell != (at % 9 // 3, at % 9 % 3)]
        yield struck, [*barred, *[(-1, 1), (0, 0), (3, 1), (1, 3)][:at % 5]]


class CutSizeTest(PlayCase):
    def test_sizes(self):
        basin = Basin([(0, 0), (1, 0)])
        self.same([cut_size(basin, cells) for cells in ([], [(0, 0)], [(1, 0)], [(0, 0), (1, 0)])], [5, 5, 7, 5])
        basin = Basin([(1, 0), (0, 2)], [(0, 1)])
        cuts = ([], [(0, 0)], [(0, 0), (1, 0), (1, 1)], [(0, 2)])
        self.same([cut_size(basin, cells) for cells in cuts], [7, 9, 11, 7])

    def test_the_shore(self):
        # The side to the shore counts as that of the row if the cell is not in the cut, and else not at all.
        self.same([cut_size(Basin([(0, 5)]), cells) for cells in ([], [(0, 5)])], [3, 3])
        self.same([cut_size(Basin([(0, 5)], [(-1, 5)]), cells) for cells in ([], [(0, 5)])], [3, 3])

    def test_a_cell_that_comes_twice(self):
        basin = Basin([(1, 1), (0, 0)])
        self.same(cut_size(basin, [(0, 0), (1, 1), (0, 0), (1, 1)]), cut_size(basin, [(0, 0), (1, 1)]))
        self.same(cut_size(basin, ((0, 0), (0, 0))), cut_size(basin, ((0, 0),)))

    def test_basins_without_a_box(self):
        for basin in (Basin([]), Basin([(40, 0)]), Basin([(0, 0)], [(0, 0)])):
            self.same(cut_size(basin, []), 0)
            self.refused(NotOpen, {"cell": (0, 0)}, cut_size, basin, [(0, 0)])

    def test_the_words_of_the_document(self):
        for struck, barred in small_basins():
            basin, plain = Basin(struck, barred), PlainBasin(struck, barred)
            for cut in plain.all_cuts()[::7]:
                self.same(cut_size(basin, list(reversed(cut))), plain.cut_size(cut))

    def test_the_greatest_cut(self):
        cells = [(x, y) for x in range(40) for y in range(-120, 121)]
        self.same(cut_size(LARGE, cells), 40 + 40 + 241)
        self.same(cut_size(LARGE, [*cells, *cells[:360]]), 321)
        self.same(cut_size(LARGE, []), 241 + 4)
        self.same(cut_size(LARGE, [(0, 0)] * 10000), 241 + 4 + 2)
        self.refused(TooMany, {"most": 10000}, cut_size, LARGE, [(0, 0)] * 10001)
        self.refused(TooMany, {"most": 10000}, cut_size, LARGE, [(500, 0)] * 10001)

    def test_wrong_cells(self):
        basin = Basin([(2, 2), (0, 0)], [(1, 1), (-1, 0)])
        for cell in ((121, 0), (0, 121), (-121, 0), (0, -121), (FAR, 0), (0, -FAR)):
            self.refused(BadCell, {"cell": cell}, cut_size, basin, [(0, 0), cell, (1, 1), (500, 500)])
            # A cell that is not open is found after all cells that lie too far away.
            self.refused(BadCell, {"cell": cell}, cut_size, basin, [(1, 1), cell])
        for cell in ((1, 1), (3, 0), (-1, 0), (-1, 1), (0, 3), (0, -1), (120, 120)):
            self.refused(NotOpen, {"cell": cell}, cut_size, basin, [(0, 0), (2, 2), cell, (1, 1), (40, 40)])

    def test_nothing_is_changed(self):
        cells = [(1, 0), (0, 0), (1, 0)]
        self.same(cut_size(Basin([(1, 0)]), cells), 5)
        self.same(cells, [(1, 0), (0, 0), (1, 0)])


class LeastCutsTest(PlayCase):
    def test_least_cuts(self):
        self.same(least_cuts(Basin([(0, 0)])), [(), ((0, 0),)])
        self.same(least_cuts(Basin([(1, 0)])), [()])
        self.same(least_cuts(Basin([(0, 0), (1, 0)])), [(), ((0, 0),), ((0, 0), (1, 0))])

    def test_basins_without_a_box(self):
        for basin in (Basin([]), Basin([(40, 0)], [(1, 1)]), Basin([(0, 0)], [(0, 0)])):
            self.same(least_cuts(basin), [()])

    def test_the_words_of_the_document(self):
        several = 0
        for struck, barred in small_basins():
            cuts = least_cuts(Basin(struck, barred))
            self.same(cuts, PlainBasin(struck, barred).least_cuts())
            several += len(cuts) > 1
            # Common cells and joined cells of least cuts are least cuts, too.
            for one in cuts:
                for two in cuts:
                    self.assertIn(tuple(sorted(set(one) & set(two))), cuts)
                    self.assertIn(tuple(sorted({*one, *two})), cuts)
        self.assertGreater(several, 20)

    def test_the_number_of_open_cells(self):
        self.same(least_cuts(Basin([(9, 0)])), [()])
        self.same(least_cuts(Basin([(0, y) for y in range(10)])), [tuple((0, y) for y in range(10))])
        self.same(least_cuts(Basin([(1, 0), (0, 4)])), PlainBasin([(1, 0), (0, 4)]).least_cuts())
        for struck in ([(10, 0)], [(0, 0), (0, 10)], [(3, 0), (0, 2)], [(39, 120)]):
            self.refused(TooMuch, {"most": 10}, least_cuts, Basin(struck))
        self.refused(TooMuch, {"most": 10}, least_cuts, LARGE)

    def test_large_boxes_with_few_open_cells(self):
        # 31 by 10 cells, of which 300 are barred.
        struck, row = [(30, 0), (30, 9)], [(x, 5) for x in range(8)]
        barred = [(x, y) for x in range(31) for y in range(10) if (x, y) not in struck and (x, y) not in row]
        self.assertEqual(len(barred), 300)
        self.same(least_cuts(Basin(struck, barred)), PlainBasin(struck, barred).least_cuts())
        self.refused(TooMuch, {"most": 10}, least_cuts, Basin(struck, barred[:-1]))
        # Barred cells outside of the box make no open cell less.
        away = [(x, 50) for x in range(-100, 100)]
        self.refused(TooMuch, {"most": 10}, least_cuts, Basin([(10, 0)], away))
        self.same(least_cuts(Basin([(9, 0)], away)), [()])
        self.same(least_cuts(Basin([(10, 0)], [*away, (5, 0)])), PlainBasin([(10, 0)], [(5, 0)]).least_cuts())
        column = [(0, y) for y in range(-120, 121)]
        self.same(least_cuts(Basin([(0, 120), (0, -120)], column[5:-5])),
                  PlainBasin([(0, 120), (0, -120)], column[5:-5]).least_cuts())
        self.refused(TooMuch, {"most": 10}, least_cuts, Basin([(0, 120), (0, -120)], column[5:-6]))

    def test_the_list_is_new(self):
        self.fresh(least_cuts, Basin([(0, 0), (1, 0)]))


if __name__ == "__main__":
    unittest.main()
