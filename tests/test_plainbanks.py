import unittest

from support import FAR, PlainBasin, PlayCase, small_lists, wanted_count, wanted_growth

from neverpenned.banks import Bank
from neverpenned.bestbanks import best_bank
from neverpenned.errors import BadCell, TooMany, TooMuch
from neverpenned.plainbanks import best_banks, plain_best

MANY = [(at // 20, at % 20) for at in range(301)]


def extras(banks):
    return [bank.extra for bank in banks]


class BestBanksTest(PlayCase):
    def test_few_cells(self):
        self.same(extras(best_banks([(0, 0), (1, 0)])), [((0, 0), (1, 0))])
        self.same(extras(best_banks([(1, 0)])), [()])
        self.same(extras(best_banks([(0, 0), (0, 2)])), [((0, 0), (0, 1), (0, 2))])
        # Of equal price and count.
        self.same(extras(best_banks([(0, 0), (0, 3), (1, 3), (1, 0)])),
                  [((0, 0), (0, 1), (0, 2), (0, 3), (1, 0), (1, 1), (1, 2), (1, 3))])
        for bank in best_banks([(0, 0)]):
            self.assertIs(type(bank), Bank)

    def test_basins_without_a_box(self):
        for struck, barred in (([], []), ([(40, 0), (-1, 3)], []), ([(3, 3)], [(3, 3)]), ([], [(0, 0)])):
            self.same(extras(best_banks(struck, barred)), [()])
            self.same(plain_best(struck, barred).extra, ())

    def test_the_words_of_the_document(self):
        several = 0
        for struck, barred in small_lists(160, seed=25):
            plain = PlainBasin(struck, barred)
            keys = {}
            for lot in plain.all_cuts():
                count = wanted_count(lot, struck)
                keys[lot] = (wanted_growth(lot) - 2 * count, -count)
            wanted = sorted(lot for lot in keys if keys[lot] == min(keys.values()))
            banks = best_banks(struck, barred)
            self.same(extras(banks), wanted)
            several += len(banks) > 1
            common = set(wanted[0]).intersection(*wanted)
            self.assertIs(type(plain_best(struck, barred)), Bank)
            self.same(plain_best(struck, barred).extra, tuple(sorted(common)))
            self.same(plain_best(struck, barred) == best_bank(struck, barred), True)
            # If two banks are best, their common cells and their cells together are best, too.
            for one in banks[:4]:
                for two in banks:
                    self.assertIn((one | two).extra, wanted)
                    self.assertIn((one & two).extra, wanted)
            # The size of a cut of open cells, told by its growth.
            for lot in list(keys)[::9]:
                outer = sum(cell not in lot for cell in plain.sources)
                self.same(plain.cut_size(lot), Bank(lot).growth + len(plain.rows) + 2 * outer)
        self.assertGreater(several, 20)

    def test_orders_and_repeated_cells(self):
        struck, barred = [(0, 0), (1, 2), (0, 2), (1, 0)], [(1, 1), (5, 5)]
        wanted = extras(best_banks(struck, barred))
        self.same(extras(best_banks(tuple(struck[::-1] * 2), barred[::-1] * 3)), wanted)
        self.same(plain_best(struck[::-1] * 2, tuple(barred * 2)).extra, plain_best(struck, barred).extra)
        self.assertEqual((struck, barred), ([(0, 0), (1, 2), (0, 2), (1, 0)], [(1, 1), (5, 5)]))

    def test_results_are_new(self):
        first = best_banks([(0, 0), (0, 1)])
        first[0].extra = ()
        first.clear()
        self.same(extras(best_banks([(0, 0), (0, 1)])), [((0, 0), (0, 1))])


class OpenCellsTest(PlayCase):
    def test_ten_and_eleven_open_cells(self):
        for call in (best_banks, plain_best):
            call([(9, 0)])
            call([(1, 0), (0, 4)])
            call([(10, 0)], [(5, 0)])
            for struck in ([(10, 0)], [(0, 0), (0, 10)], [(3, 0), (0, 2)], [(39, 120)]):
                self.refused(TooMuch, {"most": 10}, call, struck)
            self.refused(TooMuch, {"most": 10}, call, [(10, 0)], [(5, 1), (-1, 0)])

    def test_large_boxes(self):
        # 31 by 10 cells, of which 300 are barred.
        struck, row = [(30, 0), (30, 9), (0, 5)], [(x, 5) for x in range(8)]
        barred = [(x, y) for x in range(31) for y in range(10) if (x, y) not in struck and (x, y) not in row]
        self.assertEqual(len(barred), 300)
        self.same(plain_best(struck, barred).extra, best_bank(struck, barred).extra)
        self.same(extras(best_banks(struck, barred))[0], ((0, 5),))
        column = [(0, y) for y in range(-120, 121)]
        struck = [(0, 120), (0, -120)]
        self.same(plain_best(struck, column[5:-5]).extra, ((0, -120), (0, 120)))
        for call in (best_banks, plain_best):
            self.refused(TooMuch, {"most": 10}, call, [(30, 0), (30, 9), (0, 5)], barred[:-1])
            self.refused(TooMuch, {"most": 10}, call, struck, column[5:-6])
            self.refused(TooMuch, {"most": 10}, call, [(39, -120), (39, 120)], [])


class WrongListsTest(PlayCase):
    def test_wrong_lists(self):
        for call in (best_banks, plain_best):
            for cell in ((121, 0), (0, 121), (-121, 0), (0, -121), (FAR, 0), (0, -FAR)):
                self.refused(BadCell, {"cell": cell}, call, [(0, 0), cell, (200, 200)])
                self.refused(BadCell, {"cell": cell}, call, [(0, 99)], [(0, 0), cell, (200, 200)])
                self.refused(BadCell, {"cell": cell}, call, [cell], [(200, 200)] * 301)
            self.refused(TooMany, {"most": 36}, call, MANY[:37])
            self.refused(TooMany, {"most": 36}, call, [(500, 1)] * 37, [(500, 1)] * 301)
            self.refused(TooMany, {"most": 300}, call, MANY[:36], MANY)
            self.refused(TooMuch, {"most": 10}, call, MANY[:36], MANY[:20])
            call([(0, 1)] * 36, [(2, 2)] * 300)


if __name__ == "__main__":
    unittest.main()
