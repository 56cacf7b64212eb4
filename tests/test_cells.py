import unittest

from support import FAR, PlayCase

from neverpenned.cells import (
    REACH, cell_text, cells_within, check_cell, distance, moved, neighbours, read_cell, touching,
)
from neverpenned.errors import BadCell, BadNumber, BadText, TooMany

CORNERS = ((120, 120), (120, -120), (-120, 120), (-120, -120))
BEYOND = ((121, 0), (-121, 0), (0, 121), (0, -121), (121, -121), (FAR, 0), (0, -FAR), (-FAR, 5), (5, FAR))


class CheckCellTest(PlayCase):
    def test_the_reach(self):
        self.same(REACH, 120)

    def test_cells_within_the_reach_pass(self):
        for cell in (*CORNERS, (0, 0), (-120, 7), (7, 120)):
            self.assertIsNone(check_cell(cell))

    def test_cells_beyond_the_reach_are_refused(self):
        for cell in BEYOND:
            self.refused(BadCell, {"cell": cell}, check_cell, cell)


class NeighboursTest(PlayCase):
    def test_the_neighbours_in_their_order(self):
        self.same(neighbours((3, -4)), [(4, -4), (3, -3), (2, -4), (3, -5)])

    def test_neighbours_beyond_the_reach(self):
        self.same(neighbours((120, 120)), [(121, 120), (120, 121), (119, 120), (120, 119)])
        self.same(neighbours((-120, -120)), [(-119, -120), (-120, -119), (-121, -120), (-120, -121)])

    def test_the_touching_cells_in_their_order(self):
        self.same(touching((0, 0)), [(1, 0), (1, 1), (0, 1), (-1, 1), (-1, 0), (-1, -1), (0, -1), (1, -1)])

    def test_touching_cells_beyond_the_reach(self):
        self.same(touching((120, -120)), [(121, -120), (121, -119), (120, -119), (119, -119), (119, -120),
                                          (119, -121), (120, -121), (121, -121)])

    def test_cells_beyond_the_reach_are_refused(self):
        for cell in BEYOND:
            self.refused(BadCell, {"cell": cell}, neighbours, cell)
            self.refused(BadCell, {"cell": cell}, touching, cell)

    def test_the_lists_are_new(self):
        self.fresh(neighbours, (0, 0))
        self.fresh(touching, (0, 0))


class DistanceTest(PlayCase):
    def test_the_greater_difference_counts(self):
        self.same(distance((1, 2), (4, 4)), 3)
        self.same(distance((4, 4), (1, 2)), 3)
        self.same(distance((0, 0), (-2, 7)), 7)
        self.same(distance((0, 7), (-2, 0)), 7)

    def test_the_ends(self):
        self.same(distance((5, 5), (5, 5)), 0)
        self.same(distance((-120, 0), (120, 0)), 240)
        self.same(distance((-120, -120), (120, 120)), 240)

    def test_the_first_cell_is_checked_first(self):
        self.refused(BadCell, {"cell": (121, 0)}, distance, (121, 0), (0, 122))
        self.refused(BadCell, {"cell": (0, -121)}, distance, (120, 120), (0, -121))
        self.refused(BadCell, {"cell": (FAR, 0)}, distance, (FAR, 0), (0, 0))


class CellsWithinTest(PlayCase):
    def test_power_one(self):
        self.same(cells_within((0, 0), 1), [(-1, -1), (-1, 0), (-1, 1), (0, -1), (0, 1), (1, -1), (1, 0), (1, 1)])

    def test_every_power(self):
        for power in (1, 2, 3, 4, 5):
            found = cells_within((-7, 9), power)
            wanted = [(x, y) for x in range(-20, 20) for y in range(-20, 20)
                      if 0 < max(abs(x + 7), abs(y - 9)) <= power]
            self.same(found, sorted(wanted))
            self.assertEqual(len(found), (2 * power + 1) ** 2 - 1)

    def test_cells_beyond_the_reach_are_told(self):
        found = cells_within((120, 120), 5)
        self.assertEqual((found[0], found[-1], len(found)), ((115, 115), (125, 125), 120))
        self.assertNotIn((120, 120), found)

    def test_wrong_powers(self):
        for power in (0, 6, -1, FAR, -FAR):
            self.refused(BadNumber, {"number": power}, cells_within, (0, 0), power)

    def test_the_cell_is_checked_first(self):
        self.refused(BadCell, {"cell": (0, 121)}, cells_within, (0, 121), 6)

    def test_the_list_is_new(self):
        self.fresh(cells_within, (0, 0), 2)


class MovedTest(PlayCase):
    def test_the_moved_cell(self):
        self.same(moved((3, -4), 2, -5), (5, -9))
        self.same(moved((3, -4), 0, 0), (3, -4))

    def test_the_farthest_moves(self):
        self.same(moved((120, -120), 240, -240), (360, -360))
        self.same(moved((-120, 120), -240, 240), (-360, 360))

    def test_wrong_offsets(self):
        for number in (241, -241, FAR, -FAR):
            self.refused(BadNumber, {"number": number}, moved, (0, 0), number, 0)
            self.refused(BadNumber, {"number": number}, moved, (0, 0), 0, number)

    def test_the_order_of_the_checks(self):
        self.refused(BadCell, {"cell": (-121, 0)}, moved, (-121, 0), 241, 242)
        self.refused(BadNumber, {"number": 241}, moved, (0, 0), 241, 242)


class CellTextTest(PlayCase):
    def test_the_text(self):
        self.same(cell_text((-3, 14)), "-3,14")
        self.same(cell_text((0, 0)), "0,0")
        self.same(cell_text((-120, 120)), "-120,120")

    def test_cells_beyond_the_reach_are_refused(self):
        for cell in BEYOND:
            self.refused(BadCell, {"cell": cell}, cell_text, cell)

    def test_the_text_is_read_back(self):
        for number in range(-120, 121):
            self.same(read_cell(cell_text((number, -number))), (number, -number))


class ReadCellTest(PlayCase):
    def test_right_texts(self):
        self.same(read_cell("-3,14"), (-3, 14))
        self.same(read_cell("0,0"), (0, 0))
        self.same(read_cell("120,-120"), (120, -120))
        self.same(read_cell("10,-10"), (10, -10))

    def test_texts_that_are_not_of_the_form(self):
        texts = ("", ",", "1", "1,", ",1", "1,2,3", "1,2,", ",1,2", "+1,2", "1,+2", "01,2", "1,02", "00,1", "1,00",
                 "-0,1", "1,-0", "-01,1", "1,-01", "--1,2", "1,--2", "-,1", "1,-", " 1,2", "1,2 ", "1, 2", "1 ,2",
                 "1,2\n", "\n1,2", "1\n,2", "1.0,2", "1;2", "(1,2)", "a,b", "1_0,2", "1,0x1", "1e1,0", "-", "1-,2",
                 "1,2-", "\u0661,2", "1,\u00b2", "\u22121,2", "1\uff0c2")
        for text in texts:
            self.refused(BadText, {"line": 1}, read_cell, text)

    def test_the_longest_texts(self):
        longest = "-12345678,-123456789"
        self.assertEqual(len(longest), 20)
        self.refused(BadCell, {"cell": (-12345678, -123456789)}, read_cell, longest)
        self.refused(BadText, {"line": 1}, read_cell, "x" * 20)
        self.refused(TooMany, {"most": 20}, read_cell, longest + "0")
        self.refused(TooMany, {"most": 20}, read_cell, "x" * 21)
        self.refused(TooMany, {"most": 20}, read_cell, "1,2" + " " * 1000)

    def test_cells_beyond_the_reach(self):
        for cell in ((121, 0), (-121, 0), (0, 121), (0, -121), (10 ** 9, 0)):
            self.refused(BadCell, {"cell": cell}, read_cell, f"{cell[0]},{cell[1]}")


if __name__ == "__main__":
    unittest.main()
