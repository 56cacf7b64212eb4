import unittest

from support import FAR, PlayCase, scattered

from neverpenned.boxes import Box
from neverpenned.errors import BadCell, BadNumber, EmptyBox, NoCells, TooMany, TooMuch


def sides(box):
    return (box.west, box.south, box.east, box.north)


def some_boxes():
    numbers = scattered(200, 9)
    boxes = []
    for at in range(0, 200, 4):
        a, b, c, d = numbers[at:at + 4]
        boxes.append(Box(min(a, c), min(b, d), max(a, c), max(b, d)))
    return boxes


def cells_of(box):
    return {(x, y) for x in range(box.west, box.east + 1) for y in range(box.south, box.north + 1)}


class BoxTest(PlayCase):
    def test_fields(self):
        self.same(sides(Box(-3, -2, 5, 7)), (-3, -2, 5, 7))
        self.same(sides(Box(-120, -120, 120, 120)), (-120, -120, 120, 120))
        self.same(sides(Box(120, -120, 120, -120)), (120, -120, 120, -120))

    def test_sides_may_be_named(self):
        self.same(sides(Box(west=1, south=2, east=3, north=4)), (1, 2, 3, 4))

    def test_numbers_beyond_the_reach(self):
        for number in (121, -121, FAR, -FAR):
            for at in range(4):
                numbers = [0, 0, 0, 0]
                numbers[at] = number
                self.refused(BadNumber, {"number": number}, Box, *numbers)

    def test_the_order_of_the_checks(self):
        self.refused(BadNumber, {"number": 121}, Box, 121, 122, 123, 124)
        self.refused(BadNumber, {"number": 122}, Box, 1, 122, 123, 124)
        self.refused(BadNumber, {"number": -123}, Box, 1, 2, -123, 124)
        self.refused(BadNumber, {"number": 124}, Box, 1, 2, 0, 124)

    def test_empty_boxes(self):
        self.refused(EmptyBox, {}, Box, 1, 0, 0, 0)
        self.refused(EmptyBox, {}, Box, 0, 1, 0, 0)
        self.refused(EmptyBox, {}, Box, 120, 120, -120, -120)

    def test_numbers_of_cells(self):
        box = Box(-3, -2, 5, 7)
        self.same((box.width, box.height, box.area), (9, 10, 90))
        self.same((Box(4, 4, 4, 4).width, Box(4, 4, 4, 4).height, Box(4, 4, 4, 4).area), (1, 1, 1))
        self.same(Box(-120, -120, 120, 120).area, 241 * 241)

    def test_cells_in_a_box(self):
        box = Box(-1, 0, 1, 3)
        for x in range(-4, 5):
            for y in range(-3, 7):
                self.same((x, y) in box, (x, y) in cells_of(box))

    def test_far_cells_are_not_in_a_box(self):
        box = Box(-120, -120, 120, 120)
        self.same((120, 120) in box, True)
        for cell in ((121, 0), (0, 121), (-121, 0), (0, -121), (FAR, 0), (0, -FAR), (-FAR, FAR)):
            self.same(cell in box, False)
            self.same(cell not in box, True)


class AroundTest(PlayCase):
    def test_the_smallest_box(self):
        self.same(sides(Box.around([(2, 5), (-1, 7), (0, -3)])), (-1, -3, 2, 7))
        self.same(sides(Box.around(((2, 5),))), (2, 5, 2, 5))
        self.same(sides(Box.around([(120, -120), (-120, 120)])), (-120, -120, 120, 120))

    def test_the_length(self):
        cells = [(at % 100, at // 100) for at in range(800)]
        self.same(sides(Box.around(cells)), (0, 0, 99, 7))
        self.refused(TooMany, {"most": 800}, Box.around, [*cells, (0, 0)])
        self.refused(TooMany, {"most": 800}, Box.around, [(0, 0)] * 801)
        self.refused(TooMany, {"most": 800}, Box.around, [(121, 0)] * 801)
        self.same(sides(Box.around([(3, 4)] * 800)), (3, 4, 3, 4))

    def test_the_first_bad_cell(self):
        self.refused(BadCell, {"cell": (0, 121)}, Box.around, [(0, 0), (0, 121), (-FAR, 0)])

    def test_no_cells(self):
        self.refused(NoCells, {}, Box.around, [])
        self.refused(NoCells, {}, Box.around, ())

    def test_the_list_is_not_changed(self):
        cells = [(2, 5), (-1, 7)]
        box = Box.around(cells)
        self.assertEqual(cells, [(2, 5), (-1, 7)])
        cells.append((50, 50))
        self.same(sides(box), (-1, 5, 2, 7))


class OperatorsTest(PlayCase):
    def test_common_cells(self):
        for one in some_boxes():
            for two in some_boxes():
                common = cells_of(one) & cells_of(two)
                found = one & two
                if common:
                    self.assertIs(type(found), Box)
                    self.assertEqual(cells_of(found), common)
                else:
                    self.assertIsNone(found)

    def test_the_smallest_box_around_both(self):
        for one in some_boxes():
            for two in some_boxes():
                both = cells_of(one) | cells_of(two)
                self.same(sides(one | two), sides(Box.around(sorted(both))))

    def test_the_board(self):
        board = Box(-120, -120, 120, 120)
        self.same(sides(board & Box(120, 120, 120, 120)), (120, 120, 120, 120))
        self.same(sides(Box(-120, -120, -120, -120) | Box(120, 120, 120, 120)), (-120, -120, 120, 120))
        self.assertIsNone(Box(-120, 0, 0, 0) & Box(1, 0, 120, 0))
        self.assertIsNone(Box(0, -120, 0, 0) & Box(0, 1, 0, 120))

    def test_results_are_new(self):
        box = Box(0, 0, 3, 3)
        for result in (box & box, box | box, box.grown(0)):
            result.west = -50
        self.same(sides(box), (0, 0, 3, 3))

    def test_equality(self):
        for one in some_boxes():
            for two in some_boxes():
                self.same(one == two, sides(one) == sides(two))
                self.same(one != two, sides(one) != sides(two))
        box = Box(1, 2, 3, 4)
        self.same(box == Box(1, 2, 3, 4), True)
        for other in (Box(0, 2, 3, 4), Box(1, 1, 3, 4), Box(1, 2, 4, 4), Box(1, 2, 3, 5)):
            self.same(box == other, False)

    def test_nothing_else_is_equal(self):
        for other in ((0, 0, 0, 0), [(0, 0)], None, 0, "box", {}, object()):
            self.same(Box(0, 0, 0, 0) == other, False)
            self.same(other == Box(0, 0, 0, 0), False)


class MethodsTest(PlayCase):
    def test_inside(self):
        for one in some_boxes():
            for two in some_boxes():
                self.same(one.inside(two), cells_of(one) <= cells_of(two))
        self.same(Box(1, 1, 2, 2).inside(Box(1, 1, 2, 2)), True)
        self.same(Box(1, 1, 2, 2).inside(Box(0, 0, 3, 3)), True)
        for other in (Box(2, 1, 2, 2), Box(1, 2, 2, 2), Box(1, 1, 1, 2), Box(1, 1, 2, 1)):
            self.same(Box(1, 1, 2, 2).inside(other), False)

    def test_grown(self):
        self.same(sides(Box(-3, -2, 5, 7).grown(0)), (-3, -2, 5, 7))
        self.same(sides(Box(-3, -2, 5, 7).grown(1)), (-4, -3, 6, 8))
        self.same(sides(Box(-3, -2, 5, 7).grown(20)), (-23, -22, 25, 27))

    def test_grown_as_far_as_the_reach(self):
        self.same(sides(Box(-120, -110, 101, 120).grown(20)), (-120, -120, 120, 120))
        self.same(sides(Box(-101, -100, 99, 100).grown(20)), (-120, -120, 119, 120))
        self.same(sides(Box(120, 120, 120, 120).grown(1)), (119, 119, 120, 120))

    def test_wrong_growths(self):
        for by in (-1, 21, FAR, -FAR):
            self.refused(BadNumber, {"number": by}, Box(0, 0, 1, 1).grown, by)

    def test_all_cells(self):
        self.same(Box(1, -1, 2, 1).all_cells(), [(1, -1), (1, 0), (1, 1), (2, -1), (2, 0), (2, 1)])
        self.same(Box(120, -120, 120, -120).all_cells(), [(120, -120)])
        self.fresh(Box(1, -1, 2, 1).all_cells)

    def test_the_greatest_area(self):
        cells = Box(0, 0, 99, 49).all_cells()
        self.assertEqual((len(cells), cells[0], cells[-1]), (5000, (0, 0), (99, 49)))
        self.assertEqual(cells, sorted(cells))
        self.assertEqual(Box(0, 0, 81, 60).area, 5002)
        self.refused(TooMuch, {"most": 5000}, Box(0, 0, 81, 60).all_cells)
        self.refused(TooMuch, {"most": 5000}, Box(-120, -120, 120, 120).all_cells)


if __name__ == "__main__":
    unittest.main()
