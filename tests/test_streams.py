import unittest

from support import PlainBasin, PlayCase, scattered

from neverpenned.basins import Basin
from neverpenned.cuts import cut_size, least_cuts
from neverpenned.streams import full_streams, stream_count

# The greatest box there is.
TALL = [(39, -120), (0, 120)]


class StreamCase(PlayCase):
    def check(self, struck, barred=()):
        """The streams are valid, in order, without repeated cells, and full; they are returned."""
        basin, plain = Basin(struck, barred), PlainBasin(struck, barred)
        streams = full_streams(basin)
        self.assertIs(type(streams), list)
        for cells in streams:
            self.assertIs(type(cells), list)
            self.assertEqual(len(set(cells)), len(cells))
            self.assertTrue(all(type(cell) is tuple and list(map(type, cell)) == [int, int] for cell in cells))
        self.assertTrue(plain.is_valid(streams), (struck, barred))
        self.assertTrue(plain.are_full(streams), (struck, barred))
        firsts = [cells[0] for cells in streams]
        self.assertEqual(firsts, sorted(cell for cell in firsts if cell[0] < 0) + sorted(
            cell for cell in firsts if cell[0] >= 0))
        self.same(stream_count(basin), len(streams))
        self.same((basin.struck, basin.barred), (tuple(sorted(set(struck))), tuple(sorted(set(barred)))))
        return streams


class FullStreamsTest(StreamCase):
    def test_basins_without_sources(self):
        for struck, barred in (([], []), ([(40, 0), (-1, 3)], []), ([(3, 3)], [(3, 3)]), ([], [(0, 0), (5, 5)])):
            self.same(full_streams(Basin(struck, barred)), [])
            self.same(stream_count(Basin(struck, barred)), 0)

    def test_one_source(self):
        streams = self.check([(0, 0)])
        self.same([cells[0] for cells in streams], [(-1, 0), (0, 0), (0, 0)])
        self.same(sorted(cells[-1] for cells in streams), [(0, -1), (0, 1), (1, 0)])
        self.same([len(cells) for cells in streams], [3, 2, 2])
        for x, y in ((5, 0), (39, 7), (1, -120), (39, 120)):
            streams = self.check([(x, y)])
            self.same([cells[0] for cells in streams], [(-1, y), (x, y), (x, y)])

    def test_the_example_of_the_document(self):
        self.same(stream_count(Basin([(0, 0), (1, 0)])), 5)
        self.check([(0, 0), (1, 0)])

    def test_known_numbers(self):
        # A lone cell lets three streams out, a square of n cells at each side 3 * n.
        for side in range(1, 6):
            square = [(x, y) for x in range(side) for y in range(side)]
            self.same(len(self.check(square)), 3 * side)
            # Away from the shore four sides let streams out.
            away = [(x + 10, y) for x, y in square]
            self.same(len(self.check(away)), min(side + 2 * len(square), side + 4 * side))
        self.same(len(self.check([(0, y) for y in range(36)])), 38)
        self.same(len(self.check([(x, 0) for x in range(36)])), 73)

    def test_the_columns_of_the_band(self):
        self.same(len(self.check([(39, 0)])), 3)
        self.same(len(self.check([(40, 0)])), 0)
        self.same(len(self.check([(39, 0), (40, 5), (-1, 9)])), 3)
        self.assertEqual(max(cell for cells in self.check([(39, 0), (3, 0)]) for cell in cells), (40, 0))

    def test_struck_cells_that_are_barred(self):
        self.check([(0, 0), (2, 2), (1, 1)], [(1, 1)])
        self.check([(0, 0), (2, 2), (1, 1)], [(2, 2)])
        self.same(len(self.check([(0, 0), (2, 2), (1, 1)], [(2, 2), (0, 0)])), 2 + 1)

    def test_barred_cells_in_the_first_column(self):
        streams = self.check([(1, 0), (1, 2)], [(0, 1)])
        self.assertIn([(-1, 1), (0, 1)], streams)
        # All rows but that of the source are barred at the shore.
        barred = [(0, y) for y in range(-3, 9) if y != 2]
        streams = self.check([(1, -1), (3, 5), (2, 2)], barred)
        for y in (-1, 0, 1, 3, 4, 5):
            self.assertIn([(-1, y), (0, y)], streams)
        column = [(0, y) for y in range(-120, 121)]
        self.same(self.check([(1, -120), (1, 120)], column)[:241], [[(-1, y), (0, y)] for y in range(-120, 121)])

    def test_barred_cells_of_the_shore(self):
        for struck in ([(0, 0)], [(2, 2), (0, 0), (1, 5)], [(3, 1)] * 5):
            shore = [(x, y) for x in (-2, -1) for y in range(-2, 8)]
            self.same(len(self.check(struck, shore)), len(self.check(struck)))

    def test_streams_must_give_way(self):
        # Around the source all is barred but one long way.
        way = [(5, 5), (5, 4), (5, 3), (4, 3), (3, 3), (3, 4), (3, 5), (3, 6)]
        barred = [(x, y) for x in range(2, 7) for y in range(2, 7) if (x, y) not in way]
        self.check([(5, 5), (7, 7), (1, 1)], barred)
        # Rows of sources one above the other, which the streams from the shore cross.
        self.check([(x, y) for x in range(0, 24, 2) for y in (0, 2, 4)])
        self.check([(x, x % 7) for x in range(36)])
        self.check([(39, y) for y in range(36)])
        self.check([(x, y) for x in range(3, 9) for y in range(6)], [(9, y) for y in range(6)])

    def test_no_cell_occurs_twice(self):
        # In these basins a stream may easily come back to a cell that it has passed.
        self.check([(1, 5), (3, 5), (3, 7), (4, 5), (4, 7), (5, 1)], [(0, 2)])
        self.check([(0, 14), (1, 28), (2, 8), (3, 21), (3, 34), (3, 36), (4, 29), (8, 7), (8, 34), (8, 35), (10, 28),
                    (10, 29), (11, 1), (13, 31), (15, 26), (15, 33), (16, 26), (18, 35), (20, 36), (22, 24), (23, 28)])
        self.check([(0, 9), (0, 13), (1, 9), (2, 18), (2, 19), (3, 15), (7, 11), (7, 12), (8, 16), (8, 22), (13, 4),
                    (13, 9), (13, 17), (14, 11), (15, 6), (15, 8), (15, 12), (16, 0), (17, 7), (18, 18), (18, 22),
                    (19, 6), (20, 11), (21, 6), (23, 7), (24, 4), (26, 12), (28, 9)])

    def test_the_result_is_new(self):
        basin = Basin([(0, 0), (1, 0)])
        first = full_streams(basin)
        kept = [list(cells) for cells in first]
        first[0].clear()
        first.reverse()
        first.pop()
        self.same(full_streams(basin), kept)
        self.same((basin.struck, basin.open_cells()), (((0, 0), (1, 0)), [(0, 0), (1, 0)]))


class ManyBasinsTest(StreamCase):
    def test_all_basins_in_a_box_of_six_cells(self):
        # Each cell is left alone, struck, barred, or both.
        grid = [(x, y) for x in range(2) for y in range(3)]
        for code in range(0, 4 ** 6, 3):
            states = [code >> 2 * at & 3 for at in range(6)]
            struck = [cell for cell, state in zip(grid, states) if state & 1]
            barred = [cell for cell, state in zip(grid, states) if state & 2]
            self.check_number(struck, barred)

    def test_basins_of_up_to_ten_open_cells(self):
        numbers = scattered(3000, 40, seed=5)
        tried = 0
        for at in range(0, 3000, 15):
            cells = [(n // 10, n % 10 - 5) for n in numbers[at:at + 15]]
            if len(PlainBasin(cells[:2], cells[2:]).open) <= 10:
                self.check_number(cells[:2], cells[2:])
                tried += 1
            self.check_number([(n % 3, n // 3 % 3) for n in numbers[at:at + 4]],
                              [(n % 4 - 1, n // 4 % 5 - 1) for n in numbers[at + 4:at + 4 + at % 5]])
        self.assertGreater(tried, 20)

    def check_number(self, struck, barred):
        """There are as many streams as the least cut has, of all lots of open cells, and the same the other way up."""
        plain = PlainBasin(struck, barred)
        streams = self.check(struck, barred)
        self.assertEqual(len(streams), min(plain.cut_size(cut) for cut in plain.all_cuts()))
        self.same(stream_count(Basin(struck, barred).mirrored()), len(streams))

    def test_the_greatest_and_the_least_of_the_least_cuts(self):
        for seed in range(40):
            numbers = scattered(9, 9, seed=seed)
            struck = [(n // 3, n % 3) for n in numbers[:4]]
            barred = [(n // 3, n % 3) for n in numbers[4:6 + seed % 3]]
            streams, cuts = self.check(struck, barred), least_cuts(Basin(struck, barred))
            fed = PlainBasin(struck, barred).fed_cells(streams)
            self.assertEqual(min(cuts, key=len), tuple(sorted(fed)))
            self.same(cut_size(Basin(struck, barred), min(cuts, key=len)), len(streams))

    def test_basins_of_middle_size(self):
        numbers = scattered(6000, 1200, seed=9)
        for at in range(0, 6000, 120):
            cells = [(n // 30, n % 30 - 15) for n in numbers[at:at + 120]]
            self.check(cells[:at // 120 % 36 + 1], cells[36:36 + at // 120])

    def test_the_least_cut_of_middle_size(self):
        # The fed cells are a cut of just this size.
        for seed in range(12):
            cells = [(n // 40, n % 40 - 20) for n in scattered(80, 1600, seed=seed)]
            streams = self.check(cells[:36], cells[36:36 + 3 * seed])
            plain = PlainBasin(cells[:36], cells[36:36 + 3 * seed])
            self.assertEqual(plain.cut_size(plain.fed_cells(streams)), len(streams))


class LargeBasinsTest(StreamCase):
    def test_the_greatest_box(self):
        self.check(TALL)
        self.check([(39, -60), (0, 64)])
        self.check([(39, -60), (0, 65)])
        self.check([(0, -120), (0, 120)])

    def test_many_sources_and_barred_cells(self):
        cells = [(n // 241, n % 241 - 120) for n in scattered(400, 9640, seed=2)]
        self.check([*TALL, *cells[:34]])
        self.check([*TALL, *cells[34:68]], cells[100:400])

    def test_crowded_sources(self):
        self.check([*TALL, *[(x, y) for x in range(20, 26) for y in range(-3, 3)][:34]])
        walls = [(x, y) for y in (-90, -45, 0, 45, 90) for x in range(40) if x != (39 if y % 2 == 0 else 0)]
        self.check([*TALL, *[(3 * k, 5 * k - 20) for k in range(12)]], walls)


if __name__ == "__main__":
    unittest.main()
