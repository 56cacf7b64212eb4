import unittest

from support import FAR, PlainBasin, PlayCase, scattered, sides_at, small_lists

from neverpenned.basins import Basin
from neverpenned.cuts import least_cuts
from neverpenned.errors import TooMany
from neverpenned.streamcheck import first_fault, is_full
from neverpenned.streams import full_streams

# Three columns and four rows; the cell (0, 1) at the shore and the cell (2, 2) are barred.
BASIN = Basin([(1, 1), (2, 0), (0, 3), (2, 2)], [(0, 1), (2, 2)])
# Three columns and three rows, all open, with the source (2, 2) and the source (1, 1) in the middle.
SQUARE = Basin([(1, 1), (2, 2), (0, 0)])


def wanted_fault(plain, streams):
    """The least index with which the streams up to it are not valid, by the words of the document."""
    return next((at for at in range(len(streams)) if not plain.is_valid(streams[:at + 1])), None)


class ValidStreamsTest(PlayCase):
    def valid(self, basin, streams):
        self.same(first_fault(basin, streams), None)
        self.same(first_fault(basin, tuple(tuple(cells) for cells in streams)), None)

    def test_no_streams(self):
        for basin in (BASIN, SQUARE, Basin([]), Basin([(40, 0)], [(0, 0)])):
            self.valid(basin, [])

    def test_streams_from_the_shore(self):
        self.valid(SQUARE, [[(-1, y), (0, y), (1, y), (2, y), (3, y)] for y in (2, 0, 1)])
        self.valid(SQUARE, [[(-1, 0), (0, 0), (0, -1)], [(-1, 2), (0, 2), (0, 3)]])
        self.valid(BASIN, [[(-1, 2), (0, 2), (0, 1)], [(-1, 0), (0, 0), (0, 1)]])

    def test_streams_from_sources(self):
        self.valid(SQUARE, [[(2, 2), (3, 2)], [(2, 2), (2, 3)], [(1, 1), (1, 2), (1, 3)], [(1, 1), (1, 0), (1, -1)]])
        self.valid(BASIN, [[(1, 1), (0, 1)], [(0, 3), (0, 4)], [(0, 3), (1, 3), (1, 4)], [(2, 0), (3, 0)]])

    def test_a_row_that_is_barred_at_the_shore(self):
        self.valid(BASIN, [[(-1, 1), (0, 1)]])
        self.same(first_fault(BASIN, [[(-1, 1), (0, 1)], [(-1, 1), (0, 1)]]), 1)
        self.same(first_fault(BASIN, [[(-1, 1), (0, 1), (1, 1), (1, 2), (2, 2)]]), 0)
        self.same(first_fault(BASIN, [[(-1, 1), (0, 1), (0, 0), (0, -1)]]), 0)

    def test_a_stream_may_cross_itself_and_others(self):
        # It passes (1, 1) from west to east, goes around and passes it from south to north.
        way = [(-1, 1), (0, 1), (1, 1), (2, 1), (2, 0), (1, 0), (1, 1), (1, 2), (1, 3)]
        self.valid(SQUARE, [way])
        self.valid(SQUARE, [[(-1, 1), (0, 1), (1, 1), (2, 1), (3, 1)], [(1, 1), (1, 2), (1, 3)]])
        # It passes its own source again.
        self.valid(SQUARE, [[(1, 1), (2, 1), (2, 0), (1, 0), (1, 1), (1, 2), (1, 3)]])

    def test_full_streams(self):
        for struck, barred in small_lists(150):
            basin = Basin(struck, barred)
            self.valid(basin, full_streams(basin))
            self.valid(basin, full_streams(basin)[::-1])
        self.valid(Basin([(39, -120), (0, 120)]), full_streams(Basin([(39, -120), (0, 120)])))

    def test_barred_cells_beyond_the_box_are_like_other_cells_there(self):
        self.valid(Basin([(0, 0)], [(1, 0), (0, 1), (-1, 0)]), [[(-1, 0), (0, 0), (0, 1)], [(0, 0), (1, 0)]])


class FaultTest(PlayCase):
    def spoilt(self, basin, cells):
        """The stream alone is at fault, and behind others, too."""
        self.same(first_fault(basin, [cells]), 0)
        self.same(first_fault(basin, [tuple(cells)]), 0)
        good = [[(2, 2), (3, 2)], [(-1, 2), (0, 2), (0, 3)]] if basin is SQUARE else [[(2, 0), (2, -1)]]
        self.same(first_fault(basin, good), None)
        self.same(first_fault(basin, [*good, cells, *good, []]), len(good))

    def test_too_short(self):
        for cells in ([], [(1, 1)], [(-1, 0)], [(3, 0)]):
            self.spoilt(SQUARE, cells)

    def test_a_gap(self):
        for cells in ([(-1, 0), (0, 0), (2, 0), (3, 0)], [(1, 1), (2, 0), (3, 0)], [(1, 1), (1, 1), (1, 2), (1, 3)],
                      [(1, 1), (2, 1), (4, 1)], [(1, 1), (2, 1), (3, 2)], [(1, 1), (3, 1)], [(-1, 0), (1, 0)]):
            self.spoilt(SQUARE, cells)

    def test_a_cell_in_the_middle_that_is_not_open(self):
        for cells in ([(1, 1), (0, 1), (0, 2), (0, 3), (0, 4)], [(1, 1), (1, 2), (2, 2), (3, 2)],
                      [(2, 0), (3, 0), (4, 0)], [(2, 0), (3, 0), (3, 1)], [(0, 3), (0, 4), (1, 4), (1, 5)],
                      [(0, 3), (-1, 3), (-1, 2), (0, 2), (0, 1)], [(-1, 0), (-1, 1), (0, 1)]):
            self.spoilt(BASIN, cells)

    def test_a_last_cell_that_is_no_exit(self):
        for cells in ([(1, 1), (1, 2)], [(1, 1), (0, 1), (-1, 1)], [(1, 1), (2, 1), (2, 0), (1, 0)], [(-1, 0), (0, 0)],
                      [(0, 0), (-1, 0)], [(1, 1), (0, 1), (0, 0)]):
            self.spoilt(SQUARE, cells)

    def test_a_wrong_first_cell(self):
        for cells in ([(2, 1), (3, 1)], [(0, 1), (0, 2), (0, 3)], [(-1, 3), (0, 3)], [(-1, -1), (0, -1)],
                      [(-2, 0), (-1, 0), (0, 0), (0, -1)], [(3, 1), (2, 1), (2, 0), (2, -1)], [(0, 3), (0, 2), (0, 3)]):
            self.spoilt(SQUARE, cells)
        # Struck, but barred; barred at the shore, but not in a row of the box; not in the first column.
        self.spoilt(BASIN, [(2, 2), (3, 2)])
        self.spoilt(BASIN, [(0, 1), (-1, 1)])
        self.same(first_fault(Basin([(1, 1)], [(0, 0), (0, 1)]), [[(-1, 1), (0, 1)], [(-1, 0), (0, 0)]]), 1)
        self.same(first_fault(Basin([(1, 1)], [(1, 0)]), [[(0, 0), (1, 0)]]), 0)

    def test_a_side_that_one_stream_passes_twice(self):
        # In the same direction, and in the opposite one.
        around = [(-1, 1), (0, 1), (1, 1), (1, 0), (0, 0), (0, 1), (1, 1), (2, 1), (3, 1)]
        self.spoilt(SQUARE, around)
        self.same(first_fault(SQUARE, [[*around[:6], (0, 2), (0, 3)]]), None)
        self.spoilt(SQUARE, [(1, 1), (1, 0), (1, 1), (1, 2), (1, 3)])
        self.spoilt(SQUARE, [(-1, 0), (0, 0), (0, 1), (0, 0), (0, -1)])

    def test_a_side_that_two_streams_pass(self):
        first, second = [(-1, 1), (0, 1), (1, 1), (2, 1), (3, 1)], [(1, 1), (2, 1), (2, 0), (2, -1)]
        self.same(first_fault(SQUARE, [first]), None)
        self.same(first_fault(SQUARE, [second]), None)
        self.same(first_fault(SQUARE, [first, second]), 1)
        self.same(first_fault(SQUARE, [second, first, []]), 1)
        # In opposite directions.
        self.same(first_fault(SQUARE, [first, [(1, 1), (0, 1), (0, 2), (0, 3)]]), 1)
        self.same(first_fault(SQUARE, [[(1, 1), (0, 1), (0, 2), (0, 3)], first]), 1)
        # The sides to exits count, too.
        self.same(first_fault(SQUARE, [[(2, 2), (3, 2)], [(2, 2), (3, 2)]]), 1)
        self.same(first_fault(BASIN, [[(1, 1), (0, 1)], [(1, 1), (0, 1)]]), 1)

    def test_too_many_streams_from_one_cell(self):
        self.same(first_fault(SQUARE, [[(-1, 0), (0, 0), (0, -1)], [(-1, 0), (0, 0), (1, 0), (1, -1)]]), 1)
        middle = [[(1, 1), (1, 2), (1, 3)], [(1, 1), (2, 1), (3, 1)], [(1, 1), (1, 0), (1, -1)]]
        self.same(first_fault(SQUARE, middle[:2]), None)
        self.same(first_fault(SQUARE, middle[1:]), None)
        self.same(first_fault(SQUARE, middle), 2)
        self.same(first_fault(SQUARE, [[(2, 2), (3, 2)], *middle]), 3)
        # Struck twice, it is still one source.
        self.same(first_fault(Basin([(1, 1), (1, 1), (2, 2), (0, 0)]), middle), 2)

    def test_basins_without_a_box(self):
        for basin in (Basin([]), Basin([(40, 0)], [(0, 0)]), Basin([(0, 0)], [(0, 0)])):
            for cells in ([(-1, 0), (0, 0)], [(0, 0), (0, 1)], [(40, 0), (41, 0)], []):
                self.same(first_fault(basin, [cells]), 0)

    def test_cells_that_lie_far_away(self):
        for cells in ([(FAR, 0), (FAR, 1)], [(1, 1), (1, FAR)], [(-1, FAR), (0, FAR)], [(1, 1), (2, 1), (FAR, -FAR)]):
            self.spoilt(SQUARE, cells)
        rim = Basin([(39, 120), (0, 120)])
        self.same(first_fault(rim, [[(39, 120), (39, 121)], [(0, 120), (0, 121)], [(39, 120), (39, 119)]]), None)

    def test_the_words_of_the_document(self):
        """Full streams, changed here and there, against the reference."""
        numbers, faults = scattered(60000, 2 ** 20, seed=11), 0
        for at, (struck, barred) in enumerate(small_lists(300, seed=5)):
            basin, plain = Basin(struck, barred), PlainBasin(struck, barred)
            good = full_streams(basin)
            for change in range(8):
                streams = self.changed(good, numbers[at * 200 + change * 20:])
                fault = first_fault(basin, streams)
                self.same(fault, wanted_fault(plain, streams))
                faults += fault is not None
        self.assertTrue(1000 < faults < 2000, faults)

    def changed(self, streams, numbers):
        """The streams with one small change."""
        streams = [list(cells) for cells in streams]
        if not streams:
            return [[], [[(0, 0), (0, 1)]], [[(-1, 0), (0, 0)]]][numbers[0] % 3]
        at = numbers[1] % len(streams)
        cells = streams[at]
        spot = numbers[2] % len(cells)
        kind = numbers[0] % 9
        if kind == 0:
            del cells[spot]
        elif kind == 1:
            cells.insert(spot, sides_at(cells[spot])[numbers[3] % 4])
        elif kind == 2:
            cells[spot:spot] = [cells[spot], sides_at(cells[spot])[numbers[3] % 4]]
        elif kind == 3:
            streams.insert(numbers[3] % (len(streams) + 1), list(cells))
        elif kind == 4:
            cells[-1] = sides_at(cells[-2])[numbers[3] % 4]
        elif kind == 5:
            streams.append(cells[spot:])
        elif kind == 6:
            del streams[at]
        elif kind == 7:
            streams.reverse()
        else:
            streams[at:at + 1] = [[*cells[:spot + 1], *streams[at - 1][1:]]]
        return streams


class FullTest(PlayCase):
    def test_full(self):
        for struck, barred in small_lists(80):
            basin = Basin(struck, barred)
            streams = full_streams(basin)
            for cut in least_cuts(basin):
                self.same(is_full(basin, streams, cut), True)
                self.same(is_full(basin, streams[::-1], [*cut, *cut[:1], *cut][::-1]), True)
                if streams:
                    self.same(is_full(basin, streams[:-1], cut), False)
                    self.same(is_full(basin, [*streams, streams[0]], cut), False)

    def test_a_cut_of_another_size(self):
        basin = Basin([(0, 0), (1, 0)])
        streams = full_streams(basin)
        cuts = ([], [(0, 0)], [(1, 0)], [(0, 0), (1, 0)])
        self.same([is_full(basin, streams, cut) for cut in cuts], [True, True, False, True])
        self.same([is_full(basin, [], cut) for cut in cuts], [False] * 4)

    def test_cells_that_are_not_open(self):
        basin = Basin([(0, 0), (2, 0)], [(1, 0)])
        streams = full_streams(basin)
        self.same(is_full(basin, streams, [(0, 0)]), True)
        for cell in ((1, 0), (3, 0), (-1, 0), (0, 1), (FAR, 0), (0, -FAR)):
            self.same(is_full(basin, streams, [(0, 0), cell]), False)
            self.same(is_full(basin, streams, [cell]), False)

    def test_streams_that_are_not_valid(self):
        # As many as the cut has size, but one of them is spoilt.
        basin = Basin([(0, 0), (1, 0)])
        streams = full_streams(basin)
        for at in range(5):
            for cells in ([], streams[at][:-1], [(9, 9), (9, 8)]):
                spoilt = [*streams[:at], cells, *streams[at + 1:]]
                self.same(is_full(basin, spoilt, []), False)
        self.same(is_full(basin, [[(FAR, 0), (FAR, 1)]] * 5, []), False)

    def test_basins_without_a_box(self):
        self.same([is_full(Basin([]), [], []), is_full(Basin([]), [[]], []), is_full(Basin([]), [], [(0, 0)])],
                  [True, False, False])

    def test_the_lengths(self):
        basin = Basin([(0, 0)])
        streams = full_streams(basin)
        self.same(is_full(basin, streams, [(0, 0)] * 10000), True)
        self.same(is_full(basin, streams, [(FAR, 0)] * 10000), False)
        for cells in ([(0, 0)] * 10001, [(FAR, 0)] * 10001):
            self.refused(TooMany, {"most": 10000}, is_full, basin, streams, cells)
            self.refused(TooMany, {"most": 10000}, is_full, basin, [[]], cells)
            self.refused(TooMany, {"most": 400}, is_full, basin, [[]] * 401, cells)
            self.refused(TooMany, {"most": 25000}, is_full, basin, [[(0, 0)] * 25001], cells)


class LengthsTest(PlayCase):
    def test_the_number_of_streams(self):
        self.same(first_fault(SQUARE, [[]] * 400), 0)
        self.refused(TooMany, {"most": 400}, first_fault, SQUARE, [[]] * 401)
        self.refused(TooMany, {"most": 400}, first_fault, SQUARE, [[(FAR, 0)] * 100] * 401)
        self.refused(TooMany, {"most": 400}, first_fault, Basin([]), [[]] * 401)

    def test_the_number_of_cells(self):
        long = [(n // 2 % 2, n % 2) for n in range(12500)]
        self.same(first_fault(SQUARE, [[(2, 2), (3, 2)], long[:24998 - 12500], long]), 1)
        self.same(first_fault(SQUARE, [[(2, 2), (3, 2)], [(2, 2), (2, 3)], [*long, *long[:12496]]]), 2)
        self.refused(TooMany, {"most": 25000}, first_fault, SQUARE, [[(2, 2), (3, 2)], [*long, *long[:12499]]])
        self.refused(TooMany, {"most": 25000}, first_fault, SQUARE, [[(0, 0)] * 62] * 399 + [[(0, 0)] * 263])
        self.same(first_fault(SQUARE, [[(0, 0)] * 62] * 399 + [[(0, 0)] * 262]), 0)
        self.refused(TooMany, {"most": 25000}, first_fault, Basin([]), [[(FAR, FAR)] * 25001])

    def test_the_greatest_valid_set(self):
        basin = Basin([(39, -120), (0, 120), *[(x, 3 * x - 60) for x in range(34)]])
        streams = full_streams(basin)
        self.assertGreater(sum(map(len, streams)), 9000)
        self.same(first_fault(basin, streams), None)
        self.same(first_fault(basin, [*streams, streams[-1]]), len(streams))

    def test_nothing_is_changed(self):
        streams = [[(2, 2), (3, 2)], [(2, 2), (3, 2)]]
        self.same(first_fault(SQUARE, streams), 1)
        self.same(is_full(SQUARE, streams, [(1, 1)]), False)
        self.same(streams, [[(2, 2), (3, 2)], [(2, 2), (3, 2)]])


if __name__ == "__main__":
    unittest.main()
