import unittest

from support import FAR, PlayCase, scattered

from neverpenned.boxes import Box
from neverpenned.errors import BadCell, BadNumber, TooMany
from neverpenned.regions import Region
from neverpenned.symmetries import Symmetry

MANY = [(at // 200 - 50, at % 200 - 100) for at in range(800)]


def some_lists():
    numbers = scattered(600, 6)
    cells = [(numbers[at] - 2, numbers[at + 1] - 3) for at in range(0, 600, 2)]
    return [[], *[cells[at:at + at % 29] for at in range(0, 270, 9)]]


class RegionTest(PlayCase):
    def test_cells_are_ascending_and_each_once(self):
        region = Region([(2, 0), (-1, 5), (2, -3), (-1, 5), (-1, 4)])
        self.same(region.cells, ((-1, 4), (-1, 5), (2, -3), (2, 0)))
        self.same(len(region), 4)

    def test_the_empty_region(self):
        for region in (Region(), Region([]), Region(()), Region(cells=())):
            self.same(region.cells, ())
            self.same(len(region), 0)
            self.same(list(region), [])

    def test_a_tuple_is_accepted(self):
        self.same(Region(((1, 1), (0, 0))).cells, ((0, 0), (1, 1)))

    def test_the_reach(self):
        corners = [(-120, -120), (-120, 120), (120, -120), (120, 120)]
        self.same(Region(corners).cells, tuple(corners))
        for cell in ((121, 0), (0, 121), (-121, 0), (0, -121), (FAR, 0), (0, -FAR)):
            self.refused(BadCell, {"cell": cell}, Region, [(0, 0), cell, (200, 200)])

    def test_the_length(self):
        self.same(len(Region(MANY)), 800)
        self.same(Region([(1, 1)] * 800).cells, ((1, 1),))
        self.refused(TooMany, {"most": 800}, Region, [*MANY, (100, 100)])
        self.refused(TooMany, {"most": 800}, Region, [*MANY, MANY[0]])
        self.refused(TooMany, {"most": 800}, Region, [(1, 1)] * 801)
        self.refused(TooMany, {"most": 800}, Region, [(500, 1)] * 801)

    def test_the_list_is_copied_and_not_changed(self):
        cells = [(3, 3), (1, 1), (3, 3)]
        region = Region(cells)
        self.assertEqual(cells, [(3, 3), (1, 1), (3, 3)])
        cells.append((0, 0))
        cells[0] = (9, 9)
        self.same(region.cells, ((1, 1), (3, 3)))
        self.same([(0, 0) in region, (9, 9) in region, (3, 3) in region], [False, False, True])

    def test_cells_in_a_region(self):
        region = Region([(0, 0), (120, -120)])
        self.same((0, 0) in region, True)
        self.same((120, -120) in region, True)
        for cell in ((0, 1), (-120, 120), (121, -120), (FAR, 0), (0, -FAR)):
            self.same(cell in region, False)
            self.same(cell not in region, True)
        self.same((0, 0) in Region(), False)

    def test_iteration(self):
        region = Region([(2, 0), (-1, 5), (2, -3)])
        self.same(list(region), [(-1, 5), (2, -3), (2, 0)])
        self.same([(a, b) for a in region for b in region if a < b],
                  [((-1, 5), (2, -3)), ((-1, 5), (2, 0)), ((2, -3), (2, 0))])


class OperatorsTest(PlayCase):
    def test_all_operators(self):
        for one in some_lists():
            for two in some_lists():
                first, second = Region(one), Region(two)
                a, b = set(one), set(two)
                for found, wanted in ((first | second, a | b), (first & second, a & b),
                                      (first - second, a - b), (first ^ second, a ^ b)):
                    self.assertIs(type(found), Region)
                    self.same(found.cells, tuple(sorted(wanted)))
                    self.assertTrue(all(cell in found for cell in wanted))
                self.same(first == second, a == b)
                self.same(first != second, a != b)
                self.same(first.inside(second), a <= b)
                self.same((first.cells, second.cells), (tuple(sorted(a)), tuple(sorted(b))))

    def test_a_region_with_itself(self):
        region = Region([(0, 0), (1, 0)])
        self.same((region | region).cells, ((0, 0), (1, 0)))
        self.same((region & region).cells, ((0, 0), (1, 0)))
        self.same((region - region).cells, ())
        self.same((region ^ region).cells, ())
        self.same(region == region, True)
        self.same(region.inside(region), True)

    def test_results_are_new(self):
        region = Region([(0, 0), (1, 0)])
        for result in (region | Region(), region & region, region - Region(), region ^ Region(),
                       region.shifted(0, 0), region.image(Symmetry(0))):
            self.assertEqual(result, region)
            result |= Region([(5, 5)])
            result -= Region([(0, 0)])
            self.same(result.cells, ((1, 0), (5, 5)))
            self.same(region.cells, ((0, 0), (1, 0)))
            self.same([(5, 5) in region, (0, 0) in region], [False, True])

    def test_the_number_of_cells_of_a_result(self):
        full = Region(MANY)
        self.same(len(full | Region(MANY[:300])), 800)
        self.same(len(Region(MANY[:500]) | Region(MANY[300:])), 800)
        self.same(len(Region(MANY[:400]) ^ Region(MANY[400:])), 800)
        self.same(len(full ^ full), 0)
        self.same(len(full & full), 800)
        self.refused(TooMany, {"most": 800}, lambda: full | Region([(100, 100)]))
        self.refused(TooMany, {"most": 800}, lambda: Region([(100, 100)]) | full)
        self.refused(TooMany, {"most": 800}, lambda: full ^ Region([(100, 100)]))
        self.refused(TooMany, {"most": 800}, lambda: full ^ full.shifted(60, 0))
        self.same(len(full ^ Region([(100, 100), MANY[0]])), 800)

    def test_nothing_else_is_equal(self):
        for other in ((), [], [(0, 0)], None, 0, "", {}, Box(0, 0, 0, 0), object()):
            self.same(Region() == other, False)
            self.same(other == Region(), False)
            self.same(Region([(0, 0)]) == other, False)
            self.same(Region() != other, True)


class InPlaceTest(PlayCase):
    def test_added_cells_are_seen_through_a_second_name(self):
        region = Region([(0, 0), (3, 3)])
        second = region
        region |= Region([(1, 1), (3, 3)])
        self.assertIs(region, second)
        self.same(second.cells, ((0, 0), (1, 1), (3, 3)))
        self.same([(1, 1) in second, len(second), list(second)], [True, 3, [(0, 0), (1, 1), (3, 3)]])
        self.assertEqual(second.box, Box(0, 0, 3, 3))
        self.assertEqual(second, Region([(1, 1), (0, 0), (3, 3)]))

    def test_removed_cells_are_seen_through_a_second_name(self):
        region = Region([(0, 0), (3, 3), (5, 5)])
        second = region
        region -= Region([(5, 5), (7, 7)])
        self.assertIs(region, second)
        self.same(second.cells, ((0, 0), (3, 3)))
        self.same([(5, 5) in second, len(second), list(second)], [False, 2, [(0, 0), (3, 3)]])
        self.assertEqual(second.box, Box(0, 0, 3, 3))

    def test_the_region_itself_on_the_right(self):
        region = Region([(0, 0), (3, 3)])
        second = region
        region |= region
        self.assertIs(region, second)
        self.same(region.cells, ((0, 0), (3, 3)))
        region -= region
        self.assertIs(region, second)
        self.same((region.cells, len(region), (0, 0) in region), ((), 0, False))
        self.assertIsNone(region.box)

    def test_the_right_side_is_not_changed_and_not_held(self):
        region, other = Region([(0, 0)]), Region([(1, 1)])
        region |= other
        self.same(other.cells, ((1, 1),))
        other |= Region([(2, 2)])
        self.same(region.cells, ((0, 0), (1, 1)))
        empty = Region()
        empty |= other
        other -= Region([(1, 1)])
        self.same((empty.cells, other.cells), (((1, 1), (2, 2)), ((2, 2),)))
        other -= Region()
        self.same(other.cells, ((2, 2),))

    def test_too_many_cells_change_nothing(self):
        region = Region(MANY)
        second = region
        with self.assertRaises(TooMany) as caught:
            region |= Region([(100, 100), (101, 101)])
        self.assertEqual(caught.exception.most, 800)
        self.assertIs(region, second)
        self.same(region.cells, Region(MANY).cells)
        self.same((100, 100) in region, False)
        region |= Region(MANY[:5])
        self.same(len(region), 800)

    def test_other_operators_make_new_objects(self):
        region = Region([(0, 0), (3, 3)])
        second = region
        region &= Region([(0, 0)])
        self.assertIsNot(region, second)
        self.same((region.cells, second.cells), (((0, 0),), ((0, 0), (3, 3))))

    def test_a_region_may_be_changed_while_its_cells_are_gone_through(self):
        region = Region([(0, 0), (1, 1), (2, 2)])
        for cell in region:
            region -= Region([cell])
        self.same(region.cells, ())

    def test_what_was_made_before_stays(self):
        region = Region([(0, 0), (3, 3)])
        cells, box, joined = region.cells, region.box, region | Region([(9, 9)])
        region -= region
        self.same(cells, ((0, 0), (3, 3)))
        self.assertEqual(box, Box(0, 0, 3, 3))
        self.same(joined.cells, ((0, 0), (3, 3), (9, 9)))


class MethodsTest(PlayCase):
    def test_inside(self):
        small, large = Region([(0, 0), (1, 0)]), Region([(0, 0), (1, 0), (2, 0)])
        self.same([small.inside(large), large.inside(small), Region().inside(small), small.inside(Region())],
                  [True, False, True, False])
        self.same(Region().inside(Region()), True)

    def test_box(self):
        self.assertIsNone(Region().box)
        region = Region([(2, 5), (-1, 7), (0, -3)])
        self.assertIs(type(region.box), Box)
        self.assertEqual(region.box, Box(-1, -3, 2, 7))
        region.box.west = -100
        self.assertEqual(region.box, Box(-1, -3, 2, 7))
        self.assertEqual(Region([(-120, 0), (120, 1)]).box, Box(-120, 0, 120, 1))

    def test_shifted(self):
        region = Region([(0, 0), (1, 5)])
        self.same(region.shifted(-2, 3).cells, ((-2, 3), (-1, 8)))
        self.same(region.cells, ((0, 0), (1, 5)))
        self.same(Region([(-120, 120)]).shifted(240, -240).cells, ((120, -120),))
        self.same(Region([(120, -120)]).shifted(-240, 240).cells, ((-120, 120),))
        self.same(Region().shifted(240, -240).cells, ())

    def test_wrong_offsets(self):
        region = Region([(0, 0)])
        for number in (241, -241, FAR, -FAR):
            self.refused(BadNumber, {"number": number}, region.shifted, number, 0)
            self.refused(BadNumber, {"number": number}, region.shifted, 0, number)
            self.refused(BadNumber, {"number": number}, Region().shifted, number, 0)
        self.refused(BadNumber, {"number": 241}, region.shifted, 241, 242)

    def test_the_first_cell_that_would_leave_the_reach(self):
        region = Region([(119, 5), (5, 119), (0, 0), (118, 120)])
        self.refused(BadCell, {"cell": (7, 121)}, region.shifted, 2, 2)
        self.refused(BadCell, {"cell": (121, 5)}, region.shifted, 2, 0)
        self.refused(BadCell, {"cell": (0, -121)}, region.shifted, 0, -121)
        self.refused(BadCell, {"cell": (-121, 0)}, region.shifted, -121, 0)
        self.same(region.cells, ((0, 0), (5, 119), (118, 120), (119, 5)))

    def test_image(self):
        region = Region([(2, 1), (-120, 120), (0, 0)])
        for code in range(8):
            symmetry = Symmetry(code)
            image = region.image(symmetry)
            self.assertIs(type(image), Region)
            self.same(image.cells, tuple(sorted(symmetry(cell) for cell in region)))
        self.same(region.image(Symmetry(1)).cells, ((-120, -120), (-1, 2), (0, 0)))
        self.same(Region().image(Symmetry(5)).cells, ())
        self.same(region.cells, ((-120, 120), (0, 0), (2, 1)))


if __name__ == "__main__":
    unittest.main()
