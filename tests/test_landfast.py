import unittest

from support import PlayCase, scattered, sides_at

from neverpenned.banks import Bank
from neverpenned.landfast import islands, landfast

# Landfast: three cells in a row, and two that hang on a corner of the shore; an island that touches them at a corner.
CELLS = [(0, 0), (1, 0), (2, 0), (0, 4), (0, 5), (3, 1), (3, 2), (7, 7), (1, 6), (9, -9)]


class LandfastTest(PlayCase):
    def test_landfast(self):
        bank = landfast(Bank(CELLS))
        self.assertIs(type(bank), Bank)
        self.same(bank.extra, ((0, 0), (0, 4), (0, 5), (1, 0), (2, 0)))
        self.same(landfast(Bank()).extra, ())
        self.same(landfast(Bank([(1, 0), (2, 0)])).extra, ())

    def test_islands(self):
        self.same(islands(Bank(CELLS)), [[(1, 6)], [(3, 1), (3, 2)], [(7, 7)], [(9, -9)]])
        self.same(islands(Bank()), [])
        self.same(islands(Bank([(0, 0), (1, 0)])), [])
        self.same(islands(Bank([(1, 0), (2, 0), (2, 1)])), [[(1, 0), (2, 0), (2, 1)]])

    def test_a_way_around(self):
        # The cell (1, 2) is joined to the shore over the cell (2, 1) alone.
        hook = [(0, 0), (1, 0), (2, 0), (2, 1), (2, 2), (1, 2)]
        self.same(landfast(Bank(hook)).extra, tuple(sorted(hook)))
        self.same(islands(Bank([cell for cell in hook if cell != (2, 1)])), [[(1, 2), (2, 2)]])

    def test_the_rim_of_the_board(self):
        bank = Bank([(0, 120), (0, -120), (120, 120), (120, 119), (1, 120)])
        self.same(landfast(bank).extra, ((0, -120), (0, 120), (1, 120)))
        self.same(islands(bank), [[(120, 119), (120, 120)]])

    def test_the_words_of_the_document(self):
        numbers = scattered(6000, 64, seed=13)
        for at in range(0, 6000, 40):
            cells = {(n // 8, n % 8 - 4) for n in numbers[at:at + 10 + at // 40 % 30]}
            fast = {cell for cell in cells if cell[0] == 0}
            for _ in cells:
                fast |= {cell for cell in cells if any(other in fast for other in sides_at(cell))}
            self.same(landfast(Bank(list(cells))).extra, tuple(sorted(fast)))
            parts = islands(Bank(list(cells)))
            self.same(sorted(cell for part in parts for cell in part), sorted(cells - fast))
            self.same(parts, sorted(sorted(part) for part in parts))
            for part in parts:
                joined = {part[0]}
                for _ in part:
                    joined |= {cell for cell in cells if any(other in joined for other in sides_at(cell))}
                self.same(part, sorted(joined))

    def test_large_banks(self):
        comb = [(x, y) for x in range(80) for y in range(-60, 60) if x == 0 or y % 2 == 0]
        self.same(landfast(Bank(comb)).extra, tuple(comb))
        self.same(islands(Bank(comb)), [])
        lonely = [(2 * x + 1, 2 * y) for x in range(50) for y in range(-50, 50)]
        self.same(landfast(Bank(lonely)).extra, ())
        self.same(islands(Bank(lonely)), [[cell] for cell in lonely])

    def test_results_are_new(self):
        bank = Bank(CELLS)
        first = islands(bank)
        first[1].append("changed")
        first.clear()
        self.same(islands(bank), [[(1, 6)], [(3, 1), (3, 2)], [(7, 7)], [(9, -9)]])
        landfast(bank).extra = ()
        self.same((landfast(bank).extra, bank.extra), (((0, 0), (0, 4), (0, 5), (1, 0), (2, 0)), tuple(sorted(CELLS))))


if __name__ == "__main__":
    unittest.main()
