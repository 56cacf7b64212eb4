import unittest

from boards import SEVENS, PlainBoard, small_boards, some_outs
from games import plain_image
from support import FAR, PlayCase

from neverpenned.errors import BadCell, BadNumber, NoCells, Occupied, OffBoard, TooMany, TooMuch
from neverpenned.ranks import rank, ranks
from neverpenned.regions import Region

FAR_CELLS = ((121, 0), (0, 121), (-121, 0), (0, -121), (FAR, 0), (0, -FAR))
ROW = Region([(0, 0), (1, 0), (2, 0)])


def not_less(first, second):
    """Whether the first rank is not less than the second one, where None is the greatest."""
    return first is None or second is not None and first >= second


class RanksTest(PlayCase):
    def check(self, cells, outs, power):
        plain = PlainBoard(cells, outs, power)
        told = ranks(Region(cells), outs, power)
        self.same(told, {position: plain.rank(position) for position in plain.positions()})
        for start in cells:
            if start not in outs:
                self.same(rank(Region(cells), outs, power, start), told[(), start])
        return told

    def test_all_positions_of_small_boards(self):
        found = set()
        for cells, outs, power in small_boards():
            found.update(self.check(cells[::-1], outs, power).values())
        self.assertEqual(found, {0, 1, 2, 3, 4, None})

    def test_boards_of_seven_cells(self):
        found = set()
        for at, cells in enumerate(SEVENS):
            for power in (1, 2, 5):
                found.update(self.check(cells, some_outs(cells, at)[power % 4], power).values())
                found.update(self.check(cells, [], power).values())
        self.assertEqual(found, {0, 1, 2, 3, 4, 5, 6, None})

    def test_ranks(self):
        self.same(rank(ROW, [], 1, (0, 0)), 1)
        self.same(rank(ROW, [], 1, (1, 0)), 2)
        self.same(rank(ROW, [(2, 0)], 1, (1, 0)), 2)
        self.same(rank(ROW, [(0, 0), (2, 0)], 1, (1, 0)), None)
        self.same(ranks(Region([(5, 5)]), [], 3), {((), (5, 5)): 0})
        self.same(rank(Region([(5, 5)]), [], 3, (5, 5)), 0)
        self.same(ranks(Region([(5, 5)]), [(5, 5)], 3), {})
        # A runner that has no landing is penned after one strike all the same.
        self.same(ranks(Region([(0, 0), (9, 9)]), [(9, 9)], 5),
                  {((), (0, 0)): 1, (((9, 9),), (0, 0)): 0})
        self.same(ranks(Region([(0, 0), (1, 0)]), [], 1),
                  {((), (0, 0)): 1, ((), (1, 0)): 1, (((0, 0),), (1, 0)): 0, (((1, 0),), (0, 0)): 0})

    def test_positions_that_no_game_reaches(self):
        told = ranks(ROW, [(2, 0)], 1)
        self.same(told[((0, 0), (2, 0)), (1, 0)], 0)
        # The runner is never on a way out, but ways out may be struck.
        self.assertFalse(any(cell == (2, 0) for _, cell in told))
        self.same(told[((2, 0),), (1, 0)], 1)
        self.same(told[((1, 0),), (0, 0)], 1)

    def test_facts(self):
        for at, cells in enumerate(SEVENS):
            board = Region(cells)
            for power in (1, 2, 3):
                plain, wide = ranks(board, [], power), ranks(board, [], power + 1)
                self.assertNotIn(None, plain.values())
                self.assertTrue(all(not_less(wide[position], plain[position]) for position in plain))
                for outs in some_outs(cells, at)[1:4]:
                    some, more = ranks(board, outs, power), ranks(board, [*outs, cells[6]][:7], power)
                    self.assertTrue(all(not_less(some[position], plain[position]) for position in some))
                    self.assertTrue(all(not_less(more[position], some[position]) for position in more))
                    wider = ranks(board, outs, power + 1)
                    self.assertTrue(all(not_less(wider[position], some[position]) for position in some))

    def test_symmetries_do_not_change_ranks(self):
        for at, cells in enumerate(SEVENS):
            outs = some_outs(cells, at)[2]
            told = ranks(Region(cells), outs, 2)
            for code in range(1, 8):
                image = ranks(Region([plain_image(code, cell) for cell in cells]),
                              [plain_image(code, cell) for cell in outs], 2)
                moved = {(tuple(sorted(plain_image(code, cell) for cell in struck)), plain_image(code, cell)): told[
                    struck, cell] for struck, cell in told}
                self.same(image, {position: moved[position] for position in sorted(moved)})

    def test_arguments_are_not_changed_and_results_are_new(self):
        board, outs = Region(SEVENS[0]), [(2, 2), (0, 0), (2, 2)]
        first = ranks(board, outs, 1)
        kept = dict(first)
        first.clear()
        self.same(ranks(board, tuple(outs), 1), kept)
        self.same((board.cells, outs), (tuple(sorted(SEVENS[0])), [(2, 2), (0, 0), (2, 2)]))


class RefusedRanksTest(PlayCase):
    def test_the_board(self):
        eight = Region([*SEVENS[2], (7, 0)])
        for call in (lambda *rest: ranks(*rest[:3]), rank):
            self.refused(TooMuch, {"most": 7}, call, eight, [(FAR, 0)] * 8, 0, (FAR, 0))
            self.refused(TooMuch, {"most": 7}, call, Region([(x, y) for x in range(40) for y in range(20)]), [], 1, (0, 0))
            self.refused(NoCells, {}, call, Region(), [(FAR, 0)] * 8, 0, (FAR, 0))
        self.same(rank(Region(SEVENS[2]), [], 1, (0, 0)), 1)

    def test_the_ways_out_and_the_power(self):
        for call in (lambda *rest: ranks(*rest[:3]), rank):
            self.refused(TooMany, {"most": 7}, call, ROW, [(FAR, 0)] * 8, 0, (FAR, 0))
            self.refused(TooMany, {"most": 7}, call, ROW, [(0, 0)] * 8, 1, (1, 0))
            for cell in FAR_CELLS:
                self.refused(BadCell, {"cell": cell}, call, ROW, [(5, 5), cell, (FAR, 7)], 0, (FAR, 0))
            for power in (0, 6, -1, FAR):
                self.refused(BadNumber, {"number": power}, call, ROW, [(5, 5)], power, (FAR, 0))
            self.refused(OffBoard, {"cell": (5, 5)}, call, ROW, [(0, 0), (5, 5), (4, 4)], 1, (6, 6))
        self.same(rank(ROW, [(0, 0)] * 7, 1, (1, 0)), 2)

    def test_the_start(self):
        for cell in FAR_CELLS:
            self.refused(BadCell, {"cell": cell}, rank, ROW, [(5, 5)], 1, cell)
        self.refused(OffBoard, {"cell": (3, 0)}, rank, ROW, [(0, 0)], 1, (3, 0))
        self.refused(OffBoard, {"cell": (5, 5)}, rank, ROW, [(0, 0), (5, 5)], 1, (0, 0))
        self.refused(Occupied, {"cell": (0, 0)}, rank, ROW, [(2, 0), (0, 0)], 1, (0, 0))


if __name__ == "__main__":
    unittest.main()
