import unittest

from support import FAR, PlayCase, grid_cells, scattered, sides_at, wanted_growth

from neverpenned.banks import Bank
from neverpenned.boxes import Box
from neverpenned.errors import BadCell, BadNumber, OnShore, TooMany
from neverpenned.regions import Region

WIDE = [(x, y) for x in range(100) for y in range(-50, 50)]


def random_banks(many, size=7):
    """Pairs of banks near the shore, and lists of their cells."""
    numbers = scattered(many * 24, size * size, seed=21)
    for at in range(many):
        cells = [(n // size, n % size - 3) for n in numbers[24 * at:24 * at + 24]]
        yield cells[:at % 13], cells[12:12 + at // 2 % 13]


class FieldsTest(PlayCase):
    def test_the_shore(self):
        for bank in (Bank(), Bank([]), Bank(()), Bank(extra=[])):
            self.same((bank.extra, bank.growth), ((), 0))

    def test_extra_cells_are_ascending_and_each_once(self):
        bank = Bank([(3, 1), (0, 5), (3, 1), (0, -5), (120, 120)])
        self.same(bank.extra, ((0, -5), (0, 5), (3, 1), (120, 120)))

    def test_the_list_is_copied_and_not_changed(self):
        cells = [(1, 1), (0, 0), (1, 1)]
        bank = Bank(cells)
        self.assertEqual(cells, [(1, 1), (0, 0), (1, 1)])
        cells.append((2, 2))
        del cells[0]
        self.same((bank.extra, (2, 2) in bank, (1, 1) in bank, bank.growth), (((0, 0), (1, 1)), False, True, 6))

    def test_wrong_cells(self):
        for cell in ((121, 0), (0, 121), (-121, 0), (0, -121), (FAR, 0), (-1, -FAR)):
            self.refused(BadCell, {"cell": cell}, Bank, [(0, 0), cell, (-5, 0), (500, 500)])
            # A cell of the shore is found after all cells that lie too far away.
            self.refused(BadCell, {"cell": cell}, Bank, [(-1, 0), cell])
        for cell in ((-1, 0), (-1, 120), (-120, -120), (-7, 3)):
            self.refused(OnShore, {"cell": cell}, Bank, [(0, 0), cell, (-2, -2)])

    def test_the_length(self):
        self.same(len(Bank(WIDE).extra), 10000)
        self.same(Bank([(4, 4)] * 10000).extra, ((4, 4),))
        self.refused(TooMany, {"most": 10000}, Bank, [*WIDE, (0, 0)])
        self.refused(TooMany, {"most": 10000}, Bank, [(4, 4)] * 10001)
        self.refused(TooMany, {"most": 10000}, Bank, [(500, 4)] * 10001)
        self.refused(TooMany, {"most": 10000}, Bank, [(-1, 4)] * 10001)


class CellsTest(PlayCase):
    def test_the_whole_shore_is_in_a_bank(self):
        for bank in (Bank(), Bank([(0, 0), (5, 5)])):
            for cell in ((-1, 0), (-120, 120), (-121, 0), (-1, 121), (-FAR, FAR), (-1, -FAR)):
                self.same(cell in bank, True)

    def test_extra_cells(self):
        bank = Bank([(0, 0), (5, 5)])
        self.same([cell in bank for cell in ((0, 0), (5, 5), (0, 1), (5, 4), (0, 121), (FAR, 0), (0, -FAR))],
                  [True, True, False, False, False, False, False])
        self.same([(0, 0) in Bank(), (120, 120) in Bank([(120, 120)]), (121, 120) in Bank([(120, 120)])],
                  [False, True, False])


class GrowthTest(PlayCase):
    def test_growth(self):
        self.same(Bank([(0, 0)]).growth, 2)
        self.same(Bank([(1, 0)]).growth, 4)
        self.same(Bank([(0, 0), (0, 1)]).growth, 2)
        self.same(Bank([(0, y) for y in range(-120, 121)]).growth, 2)
        self.same(Bank([(x, 7) for x in range(10)]).growth, 20)
        self.same(Bank([(0, 0), (0, 2)]).growth, 4)
        self.same(Bank([(0, 0), (1, 1)]).growth, 6)
        self.same(Bank([(1, y) for y in range(5)]).growth, 12)
        self.same(Bank([(x, y) for x in range(1, 4) for y in range(3) if (x, y) != (2, 1)]).growth, 16)
        self.same(Bank([(120, 120)]).growth, 4)
        self.same(Bank(WIDE).growth, 200)

    def test_all_small_banks(self):
        for code in range(2 ** 9):
            cells = grid_cells(code, 3, 3)
            self.same(Bank(cells).growth, wanted_growth(cells))
            self.assertTrue(Bank(cells).growth >= 0 and Bank(cells).growth % 2 == 0)

    def test_the_growth_of_unions_and_of_common_parts(self):
        for one, two in random_banks(400):
            a, b = Bank(one), Bank(two)
            self.assertLessEqual((a | b).growth + (a & b).growth, a.growth + b.growth)

    def test_the_growth_of_what_is_cut_off(self):
        for one, two in random_banks(150):
            bank = Bank([*one, *two])
            for south, east, north in ((-3, 2, 0), (-1, 4, 1), (0, 0, 0), (-120, 3, 120), (2, 6, 3)):
                self.assertLessEqual(bank.cut_off(Box(0, south, east, north)).growth, bank.growth)


class OperatorsTest(PlayCase):
    def test_the_words_of_the_document(self):
        for one, two in random_banks(150):
            a, b = Bank(one), Bank(two)
            self.same((a | b).extra, tuple(sorted({*one, *two})))
            self.same((a & b).extra, tuple(sorted(set(one) & set(two))))
            self.same(a == b, set(one) == set(two))
            self.same(a.inside(b), set(one) <= set(two))
            self.same((a.extra, b.extra), (tuple(sorted(set(one))), tuple(sorted(set(two)))))

    def test_results_are_banks(self):
        a, b = Bank([(0, 0), (1, 0)]), Bank([(1, 0), (2, 0)])
        for result in (a | b, a & b, a | a, a & a, a.cut_off(Box(0, 0, 5, 5)), a.shifted(0), a.mirrored()):
            self.assertIs(type(result), Bank)
            self.assertIsNot(result, a)
        self.same([(2, 0) in (a | b), (0, 0) in (a & b), (1, 0) in (a & b), (-1, 7) in (a & b)],
                  [True, False, True, True])

    def test_the_length_of_a_union(self):
        most = Bank(WIDE)
        self.same(len((most | Bank(WIDE[:500])).extra), 10000)
        self.same(len((Bank(WIDE[:5000]) | Bank(WIDE[5000:])).extra), 10000)
        self.refused(TooMany, {"most": 10000}, most.__or__, Bank([(110, 0)]))
        self.refused(TooMany, {"most": 10000}, Bank([(110, 0)]).__or__, most)
        self.same(len((most & most).extra), 10000)
        self.same(len(most.extra), 10000)

    def test_equality(self):
        self.same(Bank([(1, 0), (0, 0)]) == Bank([(0, 0), (1, 0), (0, 0)]), True)
        self.same(Bank() == Bank([]), True)
        self.same(Bank() == Bank([(0, 0)]), False)
        for other in (None, 0, (), [], ((0, 0),), "bank", Region([(0, 0)]), Box(0, 0, 0, 0)):
            self.same(Bank([(0, 0)]) == other, False)
        self.same([Bank([(0, 0)]) != Bank([(0, 0)]), Bank() != Bank([(0, 0)])], [False, True])

    def test_inside(self):
        self.same([Bank().inside(Bank()), Bank().inside(Bank([(1, 1)])), Bank([(1, 1)]).inside(Bank())],
                  [True, True, False])
        self.same(Bank([(1, 1), (0, 0)]).inside(Bank([(1, 1), (0, 0), (2, 2)])), True)
        self.same(Bank([(1, 1), (0, 0)]).inside(Bank([(1, 1), (2, 2)])), False)


class MovedTest(PlayCase):
    def test_cut_off(self):
        bank = Bank([(0, 0), (1, 0), (2, 3), (5, -2)])
        self.same(bank.cut_off(Box(0, 0, 2, 3)).extra, ((0, 0), (1, 0), (2, 3)))
        self.same(bank.cut_off(Box(1, -2, 5, 0)).extra, ((1, 0), (5, -2)))
        self.same(bank.cut_off(Box(-120, -120, -1, 120)).extra, ())
        self.same(bank.cut_off(Box(-3, -120, 120, 120)).extra, bank.extra)
        self.same(bank.extra, ((0, 0), (1, 0), (2, 3), (5, -2)))

    def test_shifted(self):
        bank = Bank([(0, 0), (4, -3)])
        self.same(bank.shifted(5).extra, ((0, 5), (4, 2)))
        self.same(bank.shifted(-117).extra, ((0, -117), (4, -120)))
        self.same(bank.shifted(0) == bank, True)
        self.same(Bank([(0, -120), (7, -120)]).shifted(240).extra, ((0, 120), (7, 120)))
        self.same(Bank([(0, 120)]).shifted(-240).extra, ((0, -120),))
        self.same([Bank().shifted(240).extra, Bank().shifted(-240).extra], [(), ()])

    def test_wrong_shifts(self):
        bank = Bank([(5, 0), (0, 3), (0, -120)])
        for north in (241, -241, FAR, -FAR):
            self.refused(BadNumber, {"number": north}, bank.shifted, north)
            self.refused(BadNumber, {"number": north}, Bank().shifted, north)
        self.refused(BadCell, {"cell": (0, -121)}, bank.shifted, -1)
        self.refused(BadCell, {"cell": (0, 121)}, bank.shifted, 118)
        self.refused(BadCell, {"cell": (0, 123)}, bank.shifted, 120)
        self.refused(BadCell, {"cell": (0, 243)}, bank.shifted, 240)
        self.refused(BadCell, {"cell": (5, 121)}, Bank([(5, 0), (6, 50)]).shifted, 121)
        self.same(bank.shifted(117).extra, ((0, -3), (0, 120), (5, 117)))

    def test_mirrored(self):
        bank = Bank([(0, 0), (4, -3), (4, 5), (9, 120)])
        self.same(bank.mirrored().extra, ((0, 0), (4, -5), (4, 3), (9, -120)))
        self.same((bank.mirrored().mirrored() == bank, bank.mirrored().growth), (True, bank.growth))
        self.same(Bank().mirrored().extra, ())

    def test_the_words_of_the_document(self):
        for one, two in random_banks(60):
            bank = Bank(one)
            self.same(bank.shifted(7).extra, tuple(sorted((x, y + 7) for x, y in set(one))))
            self.same(bank.mirrored().extra, tuple(sorted((x, -y) for x, y in set(one))))
            self.same(bank.growth, sum(other not in bank for cell in set(one) for other in sides_at(cell))
                      - sum(x == 0 for x, y in set(one)))


if __name__ == "__main__":
    unittest.main()
