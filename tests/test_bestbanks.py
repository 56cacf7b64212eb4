import unittest
from itertools import combinations

from support import FAR, PlainBasin, PlayCase, scattered, sides_at, small_lists, wanted_count, wanted_growth

from neverpenned.banks import Bank
from neverpenned.bestbanks import best_bank, is_allowed
from neverpenned.errors import BadCell, TooMany
from neverpenned.prices import compare, price

MANY = [(at // 20, at % 20) for at in range(301)]
TALL = [(39, -120), (0, 120)]


def wanted_best(struck, cells):
    """The common cells of all best banks whose extra cells are among these cells, and these banks."""
    keys = {}
    for many in range(len(cells) + 1):
        for lot in combinations(cells, many):
            count = wanted_count(lot, struck)
            keys[lot] = (wanted_growth(lot) - 2 * count, -count)
    best = [set(lot) for lot in keys if keys[lot] == min(keys.values())]
    return set.intersection(*best), best


class AllowedTest(PlayCase):
    def test_allowed(self):
        bank = Bank([(0, 0), (39, 5), (3, 3)])
        self.same([is_allowed(bank, []), is_allowed(bank, [(1, 1), (-1, 0)]), is_allowed(bank, ((3, 3),)),
                   is_allowed(bank, [(0, 1), (0, 0)])], [True, True, False, False])
        self.same([is_allowed(Bank(), []), is_allowed(Bank(), MANY[:300])], [True, True])

    def test_barred_cells_of_the_shore(self):
        self.same(is_allowed(Bank([(0, 0)]), [(-1, 0), (-120, 120)]), True)

    def test_the_columns(self):
        self.same([is_allowed(Bank([(x, 0), (0, 0)]), []) for x in (38, 39, 40, 41, 120)],
                  [True, True, False, False, False])
        self.same(is_allowed(Bank([(0, 0), (40, 0)]), [(5, 5)]), False)

    def test_wrong_lists(self):
        bank = Bank([(40, 0)])
        self.same(is_allowed(bank, MANY[:300]), False)
        self.refused(TooMany, {"most": 300}, is_allowed, bank, MANY)
        self.refused(TooMany, {"most": 300}, is_allowed, bank, [(500, 0)] * 301)
        for cell in ((121, 0), (0, 121), (-121, 0), (0, -121), (FAR, 0), (0, -FAR)):
            self.refused(BadCell, {"cell": cell}, is_allowed, bank, [(0, 0), cell, (500, 500)])

    def test_a_large_bank(self):
        bank = Bank([(x, y) for x in range(40) for y in range(-120, 121)])
        self.same([is_allowed(bank, [(x, 0) for x in range(40, 121)]), is_allowed(bank, [(39, 120)])], [True, False])


class BestBankTest(PlayCase):
    def best(self, struck, extra, barred=()):
        bank = best_bank(struck, barred)
        self.assertIs(type(bank), Bank)
        self.same(bank.extra, tuple(sorted(extra)))

    def test_the_examples_of_the_document(self):
        self.best([(0, 0), (1, 0)], [(0, 0), (1, 0)])
        self.best([(1, 0)], [])

    def test_few_cells(self):
        self.best([], [])
        self.best([(0, 7)], [(0, 7)])
        self.best([(0, 0), (0, 2)], [(0, 0), (0, 1), (0, 2)])
        # A long gap costs nothing: the boundary along it is no longer than that of the shore.
        self.best([(0, -120), (0, 120)], [(0, y) for y in range(-120, 121)])
        self.best([(0, 0), (1, 2)], [(0, 0), (0, 1), (0, 2), (1, 2)])
        self.best([(0, 0), (2, 2)], [(0, 0)])
        self.best([(2, 0), (2, 1), (3, 0), (3, 1)], [(2, 0), (2, 1), (3, 0), (3, 1)])
        self.best([(5, 5), (7, 7)], [])

    def test_cells_that_are_no_sources(self):
        self.best([(40, 0), (-1, 3), (120, 0)], [])
        self.best([(40, 0), (40, 1), (41, 0), (41, 1)], [])
        self.best([(38, 0), (38, 1), (39, 0), (39, 1)], [(38, 0), (38, 1), (39, 0), (39, 1)])
        self.best([(39, 0), (39, 1), (40, 0), (40, 1)], [])
        self.best([(0, 0)], [], [(0, 0)])

    def test_barred_cells(self):
        self.best([(0, 0), (0, 2)], [(0, 0), (0, 2)], [(0, 1)])
        self.best([(0, 0), (0, 3)], [(0, 0), (0, 3)], [(0, 2)])
        self.best([(0, 0), (0, 2)], [(0, 0), (0, 1), (0, 2)], [(-1, 1), (1, 1), (0, 3)])
        self.best([(0, 0), (0, 2), (0, 4)], [(0, 0), (0, 1), (0, 2)], [(0, 4), (0, 3)])

    def test_a_ring_is_filled(self):
        ring = [(x, y) for x in range(10, 15) for y in range(5) if x in (10, 14) or y in (0, 4)]
        self.best(ring, [(x, y) for x in range(10, 15) for y in range(5)])
        self.best(ring, ring, [(12, 2), (11, 1), (13, 3), (11, 3), (13, 1), (12, 1), (12, 3), (11, 2), (13, 2)])
        # A barred cell in it has four sides.
        self.best(ring, [(x, y) for x in range(10, 15) for y in range(5) if (x, y) != (12, 2)], [(12, 2)])

    def test_the_order_of_the_lists_does_not_matter(self):
        struck, barred = [(0, 0), (0, 2), (1, 1), (2, 0), (0, 5)], [(0, 4), (3, 3)]
        wanted = best_bank(struck, barred).extra
        self.best(struck[::-1], wanted, barred[::-1])
        self.best([*struck, *struck], wanted, tuple([*barred, *barred]))
        self.assertEqual((struck, barred), ([(0, 0), (0, 2), (1, 1), (2, 0), (0, 5)], [(0, 4), (3, 3)]))

    def test_the_result_is_new(self):
        first = best_bank([(0, 0), (1, 0)])
        first.extra = ()
        self.best([(0, 0), (1, 0)], [(0, 0), (1, 0)])

    def test_all_lots_of_open_cells(self):
        """The least best bank lies inside all best banks, and is one of them."""
        several = 0
        for struck, barred in small_lists(160, seed=14):
            common, best = wanted_best(struck, sorted(PlainBasin(struck, barred).open))
            self.best(struck, common, barred)
            self.assertIn(common, best)
            several += len(best) > 1
        self.assertGreater(several, 20)

    def test_banks_beyond_the_box(self):
        """Allowed banks with cells outside of the box are not better, and do not lie inside the least best bank."""
        numbers = scattered(240, 6, seed=15)
        for at in range(0, 240, 8):
            struck = [(n // 3, n % 3) for n in numbers[at:at + 4]]
            barred = [(n // 3 + 1, n % 3) for n in numbers[at + 4:at + 4 + at // 8 % 3]]
            cells = [(x, y) for x in range(3) for y in range(-1, 4) if (x, y) not in barred and x + abs(y - 1) < 3]
            common, best = wanted_best(struck, cells)
            self.best(struck, common, barred)
            self.assertIn(common, best)

    def test_all_basins_of_two_columns(self):
        grid = [(x, y) for x in range(2) for y in range(3)]
        for code in range(3 ** 6):
            states = [code // 3 ** at % 3 for at in range(6)]
            struck = [cell for cell, state in zip(grid, states) if state == 1]
            barred = [cell for cell, state in zip(grid, states) if state == 2]
            self.best(struck, wanted_best(struck, sorted(PlainBasin(struck, barred).open))[0], barred)


class FactsTest(PlayCase):
    def lists(self, many, seed=16):
        numbers = scattered(60 * many, 120, seed=seed)
        for at in range(0, 60 * many, 60):
            cells = [(n // 20, n % 20 - 10) for n in numbers[at:at + 60]]
            yield cells[:at // 60 % 37], cells[40:40 + at // 60 % 20]

    def test_the_price_is_at_most_0(self):
        for struck, barred in self.lists(60):
            bank = best_bank(struck, barred)
            self.assertLessEqual(price(bank, struck), 0)
            self.same(is_allowed(bank, barred), True)
            self.assertTrue(set(bank.extra) <= PlainBasin(struck, barred).open)

    def test_no_bank_near_it_is_better(self):
        for struck, barred in self.lists(40, seed=17):
            plain, bank = PlainBasin(struck, barred), best_bank(struck, barred)
            for cell in sorted(plain.open):
                other = Bank(sorted({*bank.extra} ^ {cell}))
                self.same(compare(bank, other, struck) <= 0, True)
            rim = [cell for cell in sorted(plain.open) if any(other in bank for other in sides_at(cell))]
            for pair in zip(rim, rim[1:]):
                self.same(compare(bank, bank | Bank(pair), struck) <= 0, True)
            if bank.extra:
                # What is left out of the least best bank makes it worse.
                for at in range(len(bank.extra)):
                    self.same(compare(bank, Bank(bank.extra[:at] + bank.extra[at + 1:]), struck), -1)

    def test_sources_beside_the_bank_are_in_it(self):
        for struck, barred in self.lists(60, seed=18):
            bank = best_bank(struck, barred)
            for cell in PlainBasin(struck, barred).sources:
                if any(other in bank.extra for other in sides_at(cell)):
                    self.assertIn(cell, bank.extra)

    def test_further_struck_cells(self):
        for struck, barred in self.lists(30, seed=19):
            banks = [best_bank(struck[:many], barred) for many in range(len(struck) + 1)]
            for fewer, more in zip(banks, banks[1:]):
                self.same(fewer.inside(more), True)

    def test_mirrored_lists(self):
        for struck, barred in self.lists(30, seed=20):
            other = best_bank([(x, -y) for x, y in struck], [(x, -y) for x, y in barred])
            self.same(other.extra, best_bank(struck, barred).mirrored().extra)

    def test_shifted_lists(self):
        for struck, barred in self.lists(20, seed=22):
            other = best_bank([(x, y + 110) for x, y in struck], [(x, y + 110) for x, y in barred])
            self.same(other.extra, best_bank(struck, barred).shifted(110).extra)


class LargeListsTest(PlayCase):
    def test_the_greatest_box(self):
        cells = [(n // 241, n % 241 - 120) for n in scattered(334, 9640, seed=2)]
        for barred in ([], cells[34:]):
            bank = best_bank([*TALL, *cells[:34]], barred)
            self.assertTrue(bank.inside(best_bank([*TALL, *cells[:34]], [])))
            self.assertLessEqual(price(bank, [*TALL, *cells[:34]]), 0)

    def test_a_bank_of_some_thousand_cells(self):
        # 18 sources along each of two sides of a great frame hold it together.
        struck = [(0, -120), (0, 120), *[(x, 120) for x in range(1, 18)], *[(x, -120) for x in range(1, 18)]]
        bank = best_bank(struck)
        self.same(bank.extra, tuple((x, y) for x in range(18) for y in range(-120, 121)))
        self.same((bank.growth, price(bank, struck)), (36, 36 - 72))
        # From a barred cell on, the rows to the north and to the south of it stand alone.
        self.same(best_bank(struck, [(x, 0) for x in range(18)]).extra,
                  tuple((x, y) for x in range(18) for y in (-120, 120)))

    def test_a_game_of_many_turns(self):
        cells = [(n // 241, n % 241 - 120) for n in scattered(36, 9640, seed=24)]
        banks = [best_bank(cells[:many]) for many in range(37)]
        for fewer, more in zip(banks, banks[1:]):
            self.same(fewer.inside(more), True)


class WrongListsTest(PlayCase):
    def test_wrong_lists(self):
        for cell in ((121, 0), (0, 121), (-121, 0), (0, -121), (FAR, 0), (0, -FAR)):
            self.refused(BadCell, {"cell": cell}, best_bank, [(0, 0), cell, (200, 200)])
            self.refused(BadCell, {"cell": cell}, best_bank, [(0, 0)], [(0, 0), cell, (200, 200)])
            self.refused(BadCell, {"cell": cell}, best_bank, [cell], [(200, 200)] * 301)

    def test_the_lengths(self):
        best_bank(MANY[:36], MANY[:300])
        self.same(best_bank([(0, 1)] * 36, [(2, 2)] * 300).extra, ((0, 1),))
        self.refused(TooMany, {"most": 36}, best_bank, MANY[:37])
        self.refused(TooMany, {"most": 36}, best_bank, [(500, 1)] * 37, [(500, 1)] * 301)
        self.refused(TooMany, {"most": 300}, best_bank, [], MANY)
        self.refused(TooMany, {"most": 300}, best_bank, MANY[:36], [(500, 1)] * 301)


if __name__ == "__main__":
    unittest.main()
