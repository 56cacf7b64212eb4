import unittest

from support import FAR, PlainBasin, PlayCase, scattered, sides_at, small_lists

from neverpenned.basins import Basin
from neverpenned.cuts import least_cuts
from neverpenned.errors import BadCell, BadStreams, NotOpen, TooMany
from neverpenned.rests import Rest
from neverpenned.streams import full_streams

# Three columns and two rows; the cell (2, 1) is barred.
BASIN = Basin([(1, 0), (2, 0), (0, 1)], [(2, 1)])
LINE = [(-1, 0), (0, 0), (1, 0), (2, 0), (3, 0)]
TALL = [(39, -120), (0, 120)]


class StepsTest(PlayCase):
    def test_steps_without_streams(self):
        rest = Rest(BASIN, [])
        for cell in ((0, 0), (1, 0), (0, 1), (1, 1), (2, 0)):
            for other in sides_at(cell):
                self.same(rest.may_step(cell, other), other[0] >= 0)

    def test_steps_that_streams_pass(self):
        rest = Rest(BASIN, [LINE])
        for at in range(1, 4):
            self.same(rest.may_step(LINE[at], LINE[at + 1]), False)
        # In the opposite direction the stream does not matter, but no step leads to the shore.
        self.same([rest.may_step(LINE[at + 1], LINE[at]) for at in range(4)], [False, True, True, False])
        self.same([rest.may_step((1, 0), (1, 1)), rest.may_step((1, 0), (1, -1)), rest.may_step((1, 1), (2, 1))],
                  [True, True, True])

    def test_cells_that_are_not_open(self):
        rest = Rest(BASIN, [])
        for pair in (((2, 1), (1, 1)), ((2, 1), (2, 0)), ((3, 0), (2, 0)), ((-1, 0), (0, 0)), ((0, 2), (0, 1)),
                     ((-1, 0), (-1, 1)), ((0, -1), (0, 0)), ((7, 7), (7, 8))):
            self.same(rest.may_step(*pair), False)

    def test_cells_that_are_no_neighbours(self):
        rest = Rest(BASIN, [])
        for other in ((0, 0), (1, 1), (2, 0), (0, 2), (0, -2), (FAR, 0), (0, -FAR)):
            self.same(rest.may_step((0, 0), other), False)
        for pair in (((FAR, 0), (FAR, 1)), ((FAR, 0), (0, 0)), ((-FAR, FAR), (-FAR, FAR))):
            self.same(rest.may_step(*pair), False)

    def test_the_rim_of_the_board(self):
        rest = Rest(Basin([(39, 120), (0, 120)]), [[(39, 120), (39, 121)]])
        self.same([rest.may_step((39, 120), other) for other in ((39, 121), (40, 120), (39, 119), (38, 120))],
                  [False, True, True, True])

    def test_a_basin_without_a_box(self):
        rest = Rest(Basin([], [(0, 0)]), [])
        self.same([rest.may_step((0, 0), (1, 0)), rest.leaks((0, 0)), rest.fed, rest.full, rest.reached([])],
                  [False, False, [], True, []])
        self.refused(NotOpen, {"cell": (1, 1)}, rest.reached, [(1, 1)])


class FedTest(PlayCase):
    def test_sources_at_which_fewer_than_two_streams_begin(self):
        # The rows at the shore are served or barred, so that only the source (1, 1) can feed.
        basin = Basin([(1, 1), (3, 0), (3, 2)], [(0, 0), (2, 0), (0, 2), (2, 2)])
        shore = [[(-1, 0), (0, 0)], [(-1, 1), (0, 1), (0, 0)], [(-1, 2), (0, 2)]]
        others = [[(3, y), (4, y)] for y in (0, 2)] + [[(3, 0), (3, -1)], [(3, 2), (3, 3)]]
        middle = [[(1, 1), (1, 2), (1, 3)], [(1, 1), (1, 0), (1, -1)]]
        self.same(Rest(basin, [*shore, *others, *middle]).fed, [])
        self.same(Rest(basin, [*shore, *others, *middle]).full, True)
        for kept in ([], middle[:1], middle[1:]):
            rest = Rest(basin, [*shore, *others, *kept])
            self.same(((1, 1) in rest.fed, rest.full), (True, False))

    def test_rows_at_which_no_stream_begins(self):
        basin = Basin([(1, 0), (1, 1)], [(0, 1)])
        sources = [[(1, 0), (2, 0)], [(1, 0), (1, -1)], [(1, 1), (2, 1)], [(1, 1), (1, 2)]]
        rest = Rest(basin, [*sources, [(-1, 1), (0, 1)]])
        self.same((rest.fed, rest.full), ([(0, 0), (1, 0), (1, 1)], False))
        rest = Rest(basin, [*sources, [(-1, 1), (0, 1)], [(-1, 0), (0, 0), (0, -1)]])
        self.same((rest.fed, rest.full), ([], True))
        # A row that is barred at the shore feeds nothing, but without its stream the streams are not full.
        rest = Rest(basin, [*sources, [(-1, 0), (0, 0), (0, -1)]])
        self.same((rest.fed, rest.full), ([], False))

    def test_a_row_can_be_fed_and_shut_in(self):
        # More could come than can go: no fed cell leaks, although no stream begins at the shore.
        basin = Basin([(x, y) for x in range(2) for y in range(2)])
        outs = [[(0, 0), (0, -1)], [(1, 0), (1, -1)], [(1, 0), (2, 0)], [(1, 1), (2, 1)], [(1, 1), (1, 2)],
                [(0, 1), (0, 2)]]
        rest = Rest(basin, outs)
        self.same((rest.fed, rest.full), ([(0, 0), (0, 1), (1, 0), (1, 1)], True))
        self.same([rest.leaks(cell) for cell in rest.fed], [False] * 4)
        for at in range(6):
            self.same(Rest(basin, [*outs[:at], *outs[at + 1:]]).full, False)

    def test_the_words_of_the_document(self):
        for struck, barred in small_lists(200):
            basin, plain = Basin(struck, barred), PlainBasin(struck, barred)
            streams = full_streams(basin)
            for kept in (streams, streams[1:], streams[:-1], streams[::2], []):
                rest = Rest(basin, kept)
                self.same(rest.fed, sorted(plain.fed_cells(kept)))
                self.same([cell for cell in sorted(plain.open) if rest.leaks(cell)],
                          sorted(plain.leaking_cells(kept)))
                self.same(rest.full, len(kept) == len(streams))
                self.same(rest.full, plain.are_full(kept))

    def test_the_least_cuts(self):
        """The fed cells and those that do not leak are the least and the greatest of the least cuts."""
        several = 0
        for struck, barred in small_lists(160, seed=8):
            basin = Basin(struck, barred)
            rest, cuts = Rest(basin, full_streams(basin)), least_cuts(basin)
            self.same(tuple(rest.fed), min(cuts, key=len))
            self.same(tuple(cell for cell in basin.open_cells() if not rest.leaks(cell)), max(cuts, key=len))
            several += len(cuts) > 1
            # All of them lie between these two.
            for cut in cuts:
                self.assertTrue(set(rest.fed) <= set(cut) and not any(rest.leaks(cell) for cell in cut))
        self.assertGreater(several, 30)

    def test_other_full_streams_tell_the_same(self):
        for struck, barred in small_lists(100, seed=4):
            basin, mirrored = Basin(struck, barred), Basin(struck, barred).mirrored()
            rest = Rest(basin, full_streams(basin))
            other = Rest(basin, [[(x, -y) for x, y in cells] for cells in full_streams(mirrored)])
            self.same((rest.fed, rest.full, other.full), (other.fed, True, True))
            for cell in basin.open_cells():
                self.same(rest.leaks(cell), other.leaks(cell))


class ReachedTest(PlayCase):
    def test_reached(self):
        rest = Rest(BASIN, [])
        whole = [(0, 0), (0, 1), (1, 0), (1, 1), (2, 0)]
        self.same(rest.reached([]), [])
        self.same(rest.reached([(2, 0)]), whole)
        self.same(rest.reached([(2, 0), (0, 1), (2, 0)]), whole)
        rest = Rest(BASIN, [LINE, [(1, 0), (1, 1), (1, 2)]])
        # The stream of the row bars the way to the cell (2, 0), and that from it is free.
        self.same(rest.reached(((1, 0),)), whole[:-1])
        self.same(rest.reached(((2, 0),)), whole)
        rest = Rest(BASIN, [[(1, 0), (1, 1), (1, 2)], [(1, 0), (0, 0), (0, -1)], [(0, 1), (1, 1), (2, 1)]])
        self.same([rest.reached([cell]) for cell in ((1, 0), (0, 1))], [[(1, 0), (2, 0)], [*whole[:3], (2, 0)]])

    def test_where_steps_end(self):
        basin = Basin([(0, 0), (2, 0)], [])
        rest = Rest(basin, [LINE])
        self.same([rest.reached([(x, 0)]) for x in range(3)],
                  [[(0, 0)], [(0, 0), (1, 0)], [(0, 0), (1, 0), (2, 0)]])
        self.same(rest.reached([(1, 0), (0, 0)]), [(0, 0), (1, 0)])

    def test_the_words_of_the_document(self):
        for struck, barred in small_lists(80, seed=6):
            basin, plain = Basin(struck, barred), PlainBasin(struck, barred)
            streams = full_streams(basin)[::2]
            steps, rest = plain.rest_steps(streams), Rest(basin, streams)
            for start in plain.open:
                wanted, waiting = {start}, [start]
                while waiting:
                    for other in steps[waiting.pop()]:
                        if other in plain.open and other not in wanted:
                            wanted.add(other)
                            waiting.append(other)
                self.same(rest.reached([start]), sorted(wanted))
                self.same(rest.leaks(start), any(other not in plain.open for cell in wanted for other in steps[cell]))
            self.same(rest.reached(rest.fed), rest.fed)

    def test_wrong_cells(self):
        rest = Rest(BASIN, [])
        for cell in ((121, 0), (0, 121), (-121, 0), (0, -121), (FAR, 0), (0, -FAR)):
            self.refused(BadCell, {"cell": cell}, rest.reached, [(0, 0), cell, (500, 500)])
            self.refused(BadCell, {"cell": cell}, rest.reached, [(2, 1), cell])
            self.refused(BadCell, {"cell": cell}, rest.leaks, cell)
        for cell in ((2, 1), (3, 0), (-1, 0), (0, 2), (120, 120)):
            self.refused(NotOpen, {"cell": cell}, rest.reached, [(0, 0), cell, (-1, -1)])
            self.same(rest.leaks(cell), False)

    def test_the_length(self):
        rest = Rest(Basin(TALL), [])
        self.same(rest.reached([(5, 5)] * 10000), Rest(Basin(TALL), []).reached([(0, 0)]))
        self.refused(TooMany, {"most": 10000}, rest.reached, [(5, 5)] * 10001)
        self.refused(TooMany, {"most": 10000}, rest.reached, [(500, 5)] * 10001)


class StreamsTest(PlayCase):
    def test_streams_that_are_not_valid(self):
        good = full_streams(BASIN)
        self.refused(BadStreams, {"at": 0}, Rest, BASIN, [[]])
        self.refused(BadStreams, {"at": 0}, Rest, Basin([]), [LINE])
        for at in range(len(good)):
            for cells in ([], good[at][:-1], [(FAR, 0), (FAR, 1)], good[at - 1]):
                spoilt = [*good[:at], cells, *good[at + 1:], []]
                wanted = max(at, len(good) - 1) if cells == good[at - 1] and at == 0 else at
                self.refused(BadStreams, {"at": wanted}, Rest, BASIN, spoilt)

    def test_the_lengths(self):
        self.refused(TooMany, {"most": 400}, Rest, BASIN, [[]] * 401)
        self.refused(TooMany, {"most": 400}, Rest, BASIN, [[(0, 0)] * 100] * 401)
        self.refused(TooMany, {"most": 25000}, Rest, BASIN, [[], [(0, 0)] * 25001])
        self.refused(BadStreams, {"at": 0}, Rest, BASIN, [[]] * 400)
        self.refused(BadStreams, {"at": 1}, Rest, BASIN, [LINE, [(0, 0)] * 24995])

    def test_results_are_new_and_lists_are_copied(self):
        streams = [list(LINE), [(1, 0), (1, -1)]]
        rest = Rest(BASIN, streams)
        fed = rest.fed
        rest.fed.append((9, 9))
        rest.fed.clear()
        self.same(rest.fed, fed)
        self.fresh(rest.reached, [(0, 0)])
        cells = [(1, 1), (0, 0), (1, 1)]
        rest.reached(cells)
        self.same(cells, [(1, 1), (0, 0), (1, 1)])
        self.same(streams, [LINE, [(1, 0), (1, -1)]])
        streams[0].clear()
        streams.clear()
        self.same([rest.may_step((0, 0), (1, 0)), rest.fed, rest.full], [False, fed, False])

    def test_the_greatest_basin(self):
        cells = [(n // 241, n % 241 - 120) for n in scattered(334, 9640, seed=2)]
        for struck, barred in (([*TALL, *cells[:34]], []), ([*TALL, *cells[:34]], cells[34:])):
            basin = Basin(struck, barred)
            streams = full_streams(basin)
            rest = Rest(basin, streams)
            self.same(rest.full, True)
            self.same(rest.fed, sorted(PlainBasin(struck, barred).fed_cells(streams)))
            leaking = PlainBasin(struck, barred).leaking_cells(streams)
            self.assertEqual([rest.leaks((x, y)) for x in range(40) for y in range(-120, 121)],
                             [(x, y) in leaking for x in range(40) for y in range(-120, 121)])
            self.same(Rest(basin, streams[1:]).full, False)


if __name__ == "__main__":
    unittest.main()
