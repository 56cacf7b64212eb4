import unittest

from support import FAR, PlayCase

from neverpenned.errors import BadCell, BadName, BadNumber
from neverpenned.symmetries import Symmetry

NAMES = ("nl", "wl", "sl", "el", "nr", "wr", "sr", "er")
CELLS = ((0, 0), (1, 0), (2, 1), (-3, 7), (120, -119), (-120, -120))


class SymmetryTest(PlayCase):
    def test_codes_and_names(self):
        self.same(Symmetry.NAMES, NAMES)
        for code in range(8):
            self.same(Symmetry(code).code, code)
            self.same(Symmetry(code).name, NAMES[code])

    def test_wrong_codes(self):
        for code in (-1, 8, FAR, -FAR):
            self.refused(BadNumber, {"number": code}, Symmetry, code)

    def test_symmetries_by_name(self):
        for code in range(8):
            symmetry = Symmetry.named(NAMES[code])
            self.assertIs(type(symmetry), Symmetry)
            self.same(symmetry.code, code)

    def test_wrong_names(self):
        for name in ("", "n", "l", "NL", "ln", "nl ", " nl", "nlwl", "el\n", "x" * 3000):
            self.refused(BadName, {"name": name}, Symmetry.named, name)

    def test_where_each_symmetry_takes_a_cell(self):
        images = ((2, 1), (-1, 2), (-2, -1), (1, -2), (-2, 1), (-1, -2), (2, -1), (1, 2))
        for code in range(8):
            self.same(Symmetry(code)((2, 1)), images[code])

    def test_the_whole_reach_stays_in_place(self):
        for code in range(8):
            self.same(Symmetry(code)((0, 0)), (0, 0))
            x, y = Symmetry(code)((120, -120))
            self.assertEqual((abs(x), abs(y)), (120, 120))

    def test_cells_beyond_the_reach_are_refused(self):
        for cell in ((121, 0), (0, -121), (FAR, FAR)):
            self.refused(BadCell, {"cell": cell}, Symmetry(3), cell)
            self.refused(BadCell, {"cell": cell}, Symmetry(0), cell)

    def test_products(self):
        for one in range(8):
            for two in range(8):
                first, second = Symmetry(one), Symmetry(two)
                product = first * second
                self.assertIs(type(product), Symmetry)
                for cell in CELLS:
                    self.same(product(cell), first(second(cell)))
                self.assertEqual((first.code, second.code), (one, two))

    def test_inverses(self):
        for code in range(8):
            symmetry = Symmetry(code)
            self.assertIs(type(~symmetry), Symmetry)
            for cell in CELLS:
                self.same((~symmetry)(symmetry(cell)), cell)
                self.same(symmetry((~symmetry)(cell)), cell)
            self.same((~symmetry * symmetry).code, 0)
            self.same(symmetry.code, code)

    def test_products_and_inverses_are_new(self):
        unit = Symmetry(0)
        product = unit * unit
        inverse = ~unit
        product.code = 5
        inverse.code = 6
        self.same(unit.code, 0)
        self.same((unit * unit).code, 0)

    def test_equality(self):
        for one in range(8):
            for two in range(8):
                self.same(Symmetry(one) == Symmetry(two), one == two)
                self.same(Symmetry(one) != Symmetry(two), one != two)

    def test_nothing_else_is_equal(self):
        for other in (0, "nl", None, (0,), [], {}, object()):
            self.same(Symmetry(0) == other, False)
            self.same(other == Symmetry(0), False)
            self.same(Symmetry(0) != other, True)

    def test_mirrors(self):
        self.same([Symmetry(code).mirrors for code in range(8)], [False] * 4 + [True] * 4)

    def test_the_example_of_the_document(self):
        quarter = Symmetry(1)
        mirror = Symmetry(4)
        told = [quarter((2, 1)), (mirror * quarter)((2, 1)), (mirror * quarter).name, (~quarter).code]
        self.same(told, [(-1, 2), (1, 2), "er", 3])


if __name__ == "__main__":
    unittest.main()
