import unittest

from support import FAR, PlayCase, grid_cells

from neverpenned.boxes import Box
from neverpenned.errors import BadCell, BadNumber, BadText, TooMany, TooMuch
from neverpenned.pictures import picture, read_picture
from neverpenned.regions import Region


class PictureTest(PlayCase):
    def test_the_northernmost_row_comes_first(self):
        region = Region([(0, 0), (1, 0), (1, 1)])
        self.same(picture(region, Box(0, 0, 1, 1)), ".#\n##")
        self.same(picture(region, Box(-1, -1, 2, 2)), "....\n..#.\n.##.\n....")

    def test_cells_outside_of_the_box_are_not_shown(self):
        region = Region([(0, 0), (1, 0), (1, 1), (-50, 7)])
        self.same(picture(region, Box(1, 1, 1, 1)), "#")
        self.same(picture(region, Box(0, 1, 1, 1)), ".#")
        self.same(picture(region, Box(0, 0, 0, 1)), ".\n#")

    def test_the_empty_region(self):
        self.same(picture(Region(), Box(-1, 3, 1, 4)), "...\n...")

    def test_the_rim_of_the_board(self):
        self.same(picture(Region([(120, 120), (119, 119)]), Box(119, 119, 120, 120)), ".#\n#.")
        self.same(picture(Region([(-120, -120)]), Box(-120, -120, -119, -119)), "..\n#.")

    def test_the_greatest_area(self):
        text = picture(Region([(0, 0), (99, 49)]), Box(0, 0, 99, 49))
        lines = text.split("\n")
        self.assertEqual((len(lines), {len(line) for line in lines}), (50, {100}))
        self.assertEqual((lines[0][99], lines[49][0], text.count("#")), ("#", "#", 2))
        self.refused(TooMuch, {"most": 5000}, picture, Region(), Box(0, 0, 81, 60))
        self.refused(TooMuch, {"most": 5000}, picture, Region(), Box(-120, -120, 120, 120))

    def test_nothing_is_changed(self):
        region, box = Region([(0, 0)]), Box(0, 0, 1, 1)
        picture(region, box)
        self.assertEqual((region, box), (Region([(0, 0)]), Box(0, 0, 1, 1)))


class ReadPictureTest(PlayCase):
    def test_right_texts(self):
        region = read_picture(".#\n##", 0, 0)
        self.assertIs(type(region), Region)
        self.same(region.cells, ((0, 0), (1, 0), (1, 1)))
        self.same(read_picture("#..\n...", -5, 7).cells, ((-5, 8),))
        self.same(read_picture("#", -120, 120).cells, ((-120, 120),))
        self.same(read_picture(".", 0, 0).cells, ())

    def test_pictures_are_read_back(self):
        for code in range(0, 2 ** 12, 5):
            region = Region(grid_cells(code, 4, 3)).shifted(-2, 9)
            self.same(read_picture(picture(region, Box(-2, 9, 1, 11)), -2, 9).cells, region.cells)
            self.same(read_picture(picture(region, Box(-3, 8, 5, 12)), -3, 8).cells, region.cells)

    def test_bad_lines(self):
        for text, line in (("", 1), ("\n", 1), ("\n#", 1), ("#\n", 2), ("#.\n..\n", 3), ("#.\n\n..", 2), ("#.\n#", 2),
                           ("#.\n#.#", 2), ("#.\n..\n...\n.", 3), ("x", 1), ("#\nx", 2), ("# ", 1), ("#.\n.#\n. ", 3),
                           ("#.\r\n..", 1), ("#.\n..\r", 2), ("#.\v..", 1), ("#\u2028#", 1), ("##\n#X\n###", 2),
                           ("x\n", 1), ("##\n#\nxx", 2), ("#.\f\n", 1), ("\n\n", 1), ("#\uff03", 1)):
            self.refused(BadText, {"line": line}, read_picture, text, 0, 0)

    def test_the_length(self):
        self.refused(BadText, {"line": 1}, read_picture, "x" * 6000, 500, 500)
        self.refused(BadCell, {"cell": (5999, 0)}, read_picture, "." * 6000, 0, 0)
        self.refused(TooMany, {"most": 6000}, read_picture, "x" * 6001, 500, 500)
        self.refused(TooMany, {"most": 6000}, read_picture, "." * 6001, 0, 0)

    def test_the_longest_pictures(self):
        # No rectangle within the reach has a picture of exactly 6000 characters: 6001 is 17 times 353.
        longest = "\n".join(["#" + "." * 57 + "#"] * 100)
        self.assertEqual(len(longest), 5999)
        self.same(len(read_picture(longest, -120, -120)), 200)
        self.refused(BadText, {"line": 101}, read_picture, longest + "\n", 0, 0)
        self.refused(TooMany, {"most": 6000}, read_picture, longest + "\n#", 0, 0)

    def test_the_number_of_cells(self):
        full = "\n".join(["#" * 40] * 20)
        self.same(len(read_picture(full, 0, 0)), 800)
        more = "\n".join(["#" * 89] * 9)
        self.refused(TooMany, {"most": 800}, read_picture, more, 0, 0)
        self.same(len(read_picture(more.replace("#", ".", 1), 0, 0)), 800)

    def test_wrong_places(self):
        for number in (121, -121, FAR, -FAR):
            self.refused(BadNumber, {"number": number}, read_picture, "#", number, 0)
            self.refused(BadNumber, {"number": number}, read_picture, "#", 0, number)

    def test_the_north_east_cell(self):
        self.same(read_picture("..#\n...", 118, 119).cells, ((120, 120),))
        self.refused(BadCell, {"cell": (121, 0)}, read_picture, "#.", 120, 0)
        self.refused(BadCell, {"cell": (0, 121)}, read_picture, ".\n#", 0, 120)
        self.refused(BadCell, {"cell": (122, 121)}, read_picture, "...\n...", 120, 120)
        whole = "\n".join(["." * 24] * 240)
        self.assertEqual(len(whole), 5999)
        self.same(read_picture(whole, 97, -119).cells, ())
        self.refused(BadCell, {"cell": (120, 121)}, read_picture, whole, 97, -118)
        self.refused(BadCell, {"cell": (121, 120)}, read_picture, whole, 98, -119)

    def test_the_order_of_the_checks(self):
        full = "\n".join(["#" * 100] * 9)
        self.refused(BadText, {"line": 10}, read_picture, full + "\nx", 121, 122)
        self.refused(TooMany, {"most": 800}, read_picture, full, 121, 122)
        self.refused(BadNumber, {"number": 121}, read_picture, "##", 121, 122)
        self.refused(BadNumber, {"number": 122}, read_picture, "##", 120, 122)
        self.refused(BadCell, {"cell": (121, 120)}, read_picture, "##", 120, 120)


if __name__ == "__main__":
    unittest.main()
