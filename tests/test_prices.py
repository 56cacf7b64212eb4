import unittest

from support import FAR, PlayCase, scattered, wanted_count, wanted_growth

from neverpenned.banks import Bank
from neverpenned.errors import BadCell, TooMany
from neverpenned.prices import compare, count_in, price

MANY = [(at // 6, at % 6) for at in range(37)]


class CountTest(PlayCase):
    def test_count(self):
        bank = Bank([(0, 0), (1, 0), (5, 5), (40, 0), (39, 0)])
        self.same(count_in(bank, []), 0)
        self.same(count_in(bank, [(0, 0), (5, 5), (4, 4)]), 2)
        self.same(count_in(bank, ((0, 0), (0, 0), (5, 5), (0, 0))), 2)
        self.same(count_in(bank, [(9, 9), (0, 1)]), 0)

    def test_the_columns(self):
        bank = Bank([(39, 0), (40, 0), (120, 0), (0, 0)])
        self.same([count_in(bank, [cell]) for cell in ((0, 0), (39, 0), (40, 0), (120, 0), (-1, 0), (-120, 3))],
                  [1, 1, 0, 0, 0, 0])
        self.same(count_in(bank, [(-1, 0), (0, 0), (39, 0), (40, 0)]), 2)

    def test_the_shore_alone(self):
        self.same([count_in(Bank(), [(0, 0), (-1, 0)]), price(Bank(), [(0, 0), (-1, 0)])], [0, 0])


class PriceTest(PlayCase):
    def test_price(self):
        self.same(price(Bank([(0, 0)]), [(0, 0)]), 0)
        self.same(price(Bank([(0, 0)]), []), 2)
        self.same(price(Bank([(0, 0), (0, 1), (0, 2)]), [(0, 2), (0, 0)]), -2)
        self.same(price(Bank([(1, 0)]), [(1, 0), (1, 0)]), 2)
        self.same(price(Bank([(40, 0)]), [(40, 0)]), 4)
        self.same(price(Bank([(0, y) for y in range(36)]), [(0, y) for y in range(36)]), 2 - 72)

    def test_the_words_of_the_document(self):
        numbers = scattered(3000, 36, seed=9)
        for at in range(0, 3000, 20):
            cells = [(n // 6, n % 6) for n in numbers[at:at + 20]]
            bank, struck = Bank(cells[:at % 11]), [*cells[at % 7:14], (-1, 0), (40, 2)]
            count = wanted_count(bank.extra, struck)
            self.same([count_in(bank, struck), price(bank, struck)],
                      [count, wanted_growth(bank.extra) - 2 * count])


class CompareTest(PlayCase):
    def test_prices(self):
        shore, cell, pair = Bank(), Bank([(1, 0)]), Bank([(0, 0), (0, 1)])
        self.same([compare(shore, cell, []), compare(cell, shore, []), compare(shore, shore, [])], [-1, 1, 0])
        struck = [(0, 0), (0, 1)]
        self.same([compare(shore, pair, struck), compare(pair, shore, struck), compare(pair, pair, struck)], [1, -1, 0])

    def test_counts_where_prices_are_equal(self):
        shore, cell = Bank(), Bank([(0, 0)])
        self.same([price(shore, [(0, 0)]), price(cell, [(0, 0)])], [0, 0])
        self.same([compare(shore, cell, [(0, 0)]), compare(cell, shore, [(0, 0)])], [1, -1])
        # Equal prices and counts.
        self.same(compare(Bank([(0, 0)]), Bank([(0, 5)]), [(0, 0), (0, 5)]), 0)

    def test_a_price_comes_before_a_count(self):
        many, few = Bank([(9, y) for y in range(6)]), Bank([(0, 0)])
        struck = [(9, y) for y in range(6)]
        self.same([price(many, struck), price(few, struck)], [2, 2])
        self.same(compare(many, few, struck), -1)
        self.same(compare(many, few, struck[1:]), 1)
        self.same(compare(few, many, struck[1:]), -1)

    def test_the_words_of_the_document(self):
        numbers = scattered(4000, 25, seed=10)
        for at in range(0, 4000, 20):
            cells = [(n // 5, n % 5) for n in numbers[at:at + 20]]
            one, two, struck = Bank(cells[:at % 6]), Bank(cells[8:8 + at // 20 % 5]), cells[4:14]
            keys = [(price(bank, struck), -count_in(bank, struck)) for bank in (one, two)]
            self.same(compare(one, two, struck), (keys[0] > keys[1]) - (keys[0] < keys[1]))
            self.same(compare(two, one, struck), (keys[0] < keys[1]) - (keys[0] > keys[1]))


class WrongListsTest(PlayCase):
    def test_wrong_lists(self):
        bank = Bank([(0, 0)])
        for call, args in ((count_in, (bank,)), (price, (bank,)), (compare, (bank, Bank()))):
            call(*args, MANY[:36])
            call(*args, [(1, 1)] * 36)
            self.refused(TooMany, {"most": 36}, call, *args, MANY)
            self.refused(TooMany, {"most": 36}, call, *args, [(500, 0)] * 37)
            for cell in ((121, 0), (0, 121), (-121, 0), (0, -121), (FAR, 0), (0, -FAR)):
                self.refused(BadCell, {"cell": cell}, call, *args, [(0, 0), cell, (500, 500)])

    def test_nothing_is_changed(self):
        struck, bank = [(1, 0), (0, 0), (1, 0)], Bank([(1, 0)])
        self.same([count_in(bank, struck), price(bank, struck), compare(bank, Bank(), struck)], [1, 2, 1])
        self.same((struck, bank.extra), ([(1, 0), (0, 0), (1, 0)], ((1, 0),)))


if __name__ == "__main__":
    unittest.main()
