import unittest

from support import FAR, PlainBasin, PlayCase, scattered, sides_at

from neverpenned import basins
from neverpenned.basins import Basin
from neverpenned.boxes import Box
from neverpenned.errors import BadCell, TooMany, TooMuch

MANY = [(at // 20, at % 20) for at in range(301)]


def corners(box):
    return (box.west, box.south, box.east, box.north)


class FieldsTest(PlayCase):
    def test_the_band(self):
        self.same(basins.BAND, 39)

    def test_cells_are_ascending_and_each_once(self):
        basin = Basin([(2, 0), (-1, 5), (2, 0), (2, -3)], [(7, 7), (-4, 0), (7, -7), (7, 7)])
        self.same(basin.struck, ((-1, 5), (2, -3), (2, 0)))
        self.same(basin.barred, ((-4, 0), (7, -7), (7, 7)))
        self.same(basin.sources, ((2, -3), (2, 0)))

    def test_without_cells(self):
        for basin in (Basin([]), Basin((), ()), Basin(struck=[], barred=[]), Basin([], barred=())):
            self.same((basin.struck, basin.barred, basin.sources, basin.box), ((), (), (), None))

    def test_the_lists_are_copied_and_not_changed(self):
        struck, barred = [(3, 3), (1, 1), (3, 3)], [(2, 2), (0, 0)]
        basin = Basin(struck, barred)
        self.assertEqual((struck, barred), ([(3, 3), (1, 1), (3, 3)], [(2, 2), (0, 0)]))
        struck.append((9, 9))
        barred.clear()
        self.same((basin.struck, basin.barred, basin.sources), (((1, 1), (3, 3)), ((0, 0), (2, 2)), ((1, 1), (3, 3))))
        self.same((corners(basin.box), basin.is_open((2, 2))), ((0, 1, 3, 3), False))

    def test_the_reach(self):
        rim = [(-120, -120), (-120, 120), (120, -120), (120, 120)]
        self.same((Basin(rim, rim).struck, Basin(rim, rim).barred), (tuple(rim), tuple(rim)))
        for cell in ((121, 0), (0, 121), (-121, 0), (0, -121), (FAR, 0), (0, -FAR)):
            self.refused(BadCell, {"cell": cell}, Basin, [(0, 0), cell, (200, 200)])
            self.refused(BadCell, {"cell": cell}, Basin, [(0, 0)], [(0, 0), cell, (200, 200)])
            self.refused(BadCell, {"cell": cell}, Basin, [cell], [(200, 200)] * 301)

    def test_the_lengths(self):
        self.same(len(Basin(MANY[:36]).struck), 36)
        self.same(len(Basin([], MANY[:300]).barred), 300)
        self.same(Basin([(1, 1)] * 36, [(2, 2)] * 300).struck, ((1, 1),))
        self.refused(TooMany, {"most": 36}, Basin, MANY[:37])
        self.refused(TooMany, {"most": 36}, Basin, [(1, 1)] * 37)
        self.refused(TooMany, {"most": 36}, Basin, [(500, 1)] * 37, [(500, 1)] * 301)
        self.refused(TooMany, {"most": 300}, Basin, [], MANY)
        self.refused(TooMany, {"most": 300}, Basin, MANY[:36], [(1, 1)] * 301)
        self.refused(TooMany, {"most": 300}, Basin, [], [(500, 1)] * 301)


class SourcesTest(PlayCase):
    def test_the_columns(self):
        struck = [(x, 5 - x) for x in (-2, -1, 0, 1, 38, 39, 40, 41, 120)]
        self.same(Basin(struck).sources, ((0, 5), (1, 4), (38, -33), (39, -34)))
        self.same(corners(Basin(struck).box), (0, -34, 39, 5))
        for struck in ([(40, 0)], [(-1, 0)], [(120, 0), (-120, 7)]):
            self.same((Basin(struck).sources, Basin(struck).box), ((), None))

    def test_struck_cells_that_are_barred(self):
        basin = Basin([(0, 0), (3, 4), (39, 9)], [(39, 9), (5, 5), (0, 0)])
        self.same((basin.sources, basin.struck), (((3, 4),), ((0, 0), (3, 4), (39, 9))))
        self.same(corners(basin.box), (0, 4, 3, 4))
        basin = Basin([(0, 0), (3, 4)], [(3, 4), (0, 0)])
        self.same((basin.sources, basin.box, basin.rows(), basin.open_cells()), ((), None, [], []))

    def test_the_box(self):
        self.same(corners(Basin([(7, -3)]).box), (0, -3, 7, -3))
        self.same(corners(Basin([(2, 8), (5, 1), (0, 4), (-9, 100), (60, -100)]).box), (0, 1, 5, 8))
        self.assertIs(type(Basin([(0, 0)]).box), Box)
        self.same(corners(Basin([(39, -120), (0, 120)]).box), (0, -120, 39, 120))

    def test_the_box_is_new(self):
        basin = Basin([(2, 1)])
        basin.box.east = 30
        basin.box.north = 30
        self.same((corners(basin.box), basin.is_open((3, 1)), basin.rows()), ((0, 1, 2, 1), False, [1]))

    def test_the_rows(self):
        self.same(Basin([(7, -3)]).rows(), [-3])
        self.same(Basin([(2, 2), (5, -1)]).rows(), [-1, 0, 1, 2])
        self.same(Basin([(40, 0)]).rows(), [])
        self.same(Basin([(39, -120), (0, 120)]).rows(), list(range(-120, 121)))
        self.fresh(Basin([(2, 2), (5, -1)]).rows)


class OpenCellsTest(PlayCase):
    def test_open_cells(self):
        basin = Basin([(2, 1), (1, -1)], [(1, 0), (0, 1), (-1, 0), (5, 5)])
        self.same(basin.open_cells(), [(0, -1), (0, 0), (1, -1), (1, 1), (2, -1), (2, 0), (2, 1)])
        for cell in basin.open_cells():
            self.same(basin.is_open(cell), True)
        for cell in ((1, 0), (0, 1), (-1, 0), (-1, 1), (3, 0), (0, 2), (0, -2), (5, 5), (FAR, 0), (0, -FAR)):
            self.same(basin.is_open(cell), False)
        self.fresh(basin.open_cells)

    def test_without_a_box(self):
        for basin in (Basin([]), Basin([(40, 0)]), Basin([(3, 3)], [(3, 3)]), Basin([], [(0, 0)])):
            self.same((basin.open_cells(), basin.rows()), ([], []))
            for cell in ((0, 0), (3, 3), (40, 0), (-1, 0), (FAR, FAR)):
                self.same([basin.is_open(cell), basin.is_exit(cell, (cell[0] + 1, cell[1]))], [False, False])

    def test_large_boxes(self):
        for struck in ([(39, -60), (0, 64)], [(0, -120), (39, 4)]):
            self.same(len(Basin(struck).open_cells()), 5000)
        self.same(len(Basin([(39, -60), (0, 64)], MANY[:300]).open_cells()), 4700)
        # 36 by 139 cells are 5004; no box has 5001 to 5003.
        for struck in ([(35, -60), (0, 78)], [(39, -60), (0, 65)], [(39, -120), (39, 120)], [(20, -120), (0, 120)]):
            self.refused(TooMuch, {"most": 5000}, Basin(struck).open_cells)
            self.refused(TooMuch, {"most": 5000}, Basin(struck, MANY[:300]).open_cells)
        self.same(len(Basin([(19, -120), (0, 120)]).open_cells()), 4820)

    def test_what_does_not_refuse_large_boxes(self):
        basin = Basin([(39, -120), (0, 120), (5, 5)], [(5, 6), (39, 120)])
        self.same((basin.box.area, len(basin.rows()), len(basin.sources)), (9640, 241, 3))
        self.same([basin.is_open(cell) for cell in ((0, 0), (39, 119), (39, 120), (40, 0), (0, 121))],
                  [True, True, False, False, False])
        self.same([basin.is_exit(*pair) for pair in (((39, 0), (40, 0)), ((39, 119), (39, 120)), ((5, 5), (5, 6)),
                                                     ((0, 120), (0, 121)), ((0, 120), (-1, 120)))],
                  [True, True, True, True, False])
        self.same(basin.mirrored().sources, ((0, -120), (5, -5), (39, 120)))


class ExitsTest(PlayCase):
    def test_exits(self):
        basin = Basin([(1, 1), (0, 0)], [(1, 0), (-1, 0), (0, -1), (3, 3)])
        wanted = [((0, 0), (0, -1)), ((0, 0), (1, 0)), ((0, 1), (0, 2)), ((1, 1), (1, 0)), ((1, 1), (1, 2)),
                  ((1, 1), (2, 1))]
        cells = [(x, y) for x in range(-2, 5) for y in range(-2, 5)]
        self.same([(cell, other) for cell in cells for other in cells if basin.is_exit(cell, other)], wanted)

    def test_a_box_of_one_cell(self):
        basin = Basin([(0, 7)])
        self.same([basin.is_exit((0, 7), other) for other in sides_at((0, 7))], [True, True, False, True])
        for other in ((0, 7), (1, 8), (0, 9), (2, 7), (FAR, 7), (0, -FAR)):
            self.same(basin.is_exit((0, 7), other), False)
        for cell in ((1, 7), (-1, 7), (0, 8), (FAR, FAR)):
            for other in sides_at(cell):
                self.same(basin.is_exit(cell, other), False)

    def test_the_shore(self):
        for barred in ([], [(-1, 0)], [(-1, y) for y in range(-3, 4)]):
            basin = Basin([(0, 0), (2, 1)], barred)
            self.same([basin.is_exit((0, 0), (-1, 0)), basin.is_exit((0, 1), (-1, 1)), basin.is_open((-1, 0)),
                       basin.is_exit((-1, 0), (-1, 1)), basin.is_exit((-1, 0), (0, 0))], [False] * 5)
            self.same(basin.open_cells(), [(0, 0), (0, 1), (1, 0), (1, 1), (2, 0), (2, 1)])

    def test_barred_cells_in_the_first_column(self):
        basin = Basin([(1, 0), (1, 2)], [(0, 1)])
        self.same([basin.is_exit((0, 0), (0, 1)), basin.is_exit((0, 2), (0, 1)), basin.is_exit((1, 1), (0, 1)),
                   basin.is_exit((-1, 1), (0, 1)), basin.is_exit((0, 1), (1, 1)), basin.is_exit((0, 1), (0, 0))],
                  [True, True, True, False, False, False])

    def test_the_rim_of_the_board(self):
        basin = Basin([(39, 120), (0, -120)])
        self.same([basin.is_exit((3, 120), (3, 121)), basin.is_exit((39, -120), (39, -121)),
                   basin.is_exit((39, 120), (40, 120)), basin.is_exit((39, 120), (38, 120))], [True, True, True, False])

    def test_the_words_of_the_document(self):
        numbers = scattered(4000, 49)
        for at in range(0, 4000, 20):
            struck, barred = [[(n // 7 - 1, n % 7 - 3) for n in part] for part in
                              (numbers[at:at + at % 5], numbers[at + 5:at + 5 + at // 20 % 15])]
            basin, plain = Basin(struck, barred), PlainBasin(struck, barred)
            cells = [(x, y) for x in range(-2, 7) for y in range(-5, 6)]
            self.same(basin.sources, tuple(plain.sources))
            self.same(basin.rows(), plain.rows)
            self.same(basin.open_cells(), sorted(plain.open))
            for cell in cells:
                self.same(basin.is_open(cell), cell in plain.open)
                for other in [*sides_at(cell), cell, (cell[0] + 1, cell[1] + 1), (0, 0)]:
                    self.same(basin.is_exit(cell, other), plain.is_exit(cell, other))


class MirroredTest(PlayCase):
    def test_mirrored(self):
        basin = Basin([(2, 1), (-5, 120), (1, -7)], [(3, 3), (0, -120), (1, -7)])
        mirrored = basin.mirrored()
        self.assertIs(type(mirrored), Basin)
        self.same((mirrored.struck, mirrored.barred), (((-5, -120), (1, 7), (2, -1)), ((0, 120), (1, 7), (3, -3))))
        self.same((mirrored.sources, corners(mirrored.box)), (((2, -1),), (0, -1, 2, -1)))
        again = mirrored.mirrored()
        self.same((again.struck, again.barred), (basin.struck, basin.barred))
        self.same((basin.sources, basin.rows()), (((2, 1),), [1]))

    def test_without_cells(self):
        self.same((Basin([]).mirrored().struck, Basin([]).mirrored().box), ((), None))

    def test_full_lists(self):
        mirrored = Basin(MANY[:36], MANY[:300]).mirrored()
        self.same((len(mirrored.struck), len(mirrored.barred)), (36, 300))
        self.same(mirrored.barred, tuple(sorted((x, -y) for x, y in MANY[:300])))


if __name__ == "__main__":
    unittest.main()
