import unittest

from support import PlayCase, grid_cells, scattered

from neverpenned.cells import neighbours, touching
from neverpenned.components import components, filled, holes
from neverpenned.errors import TooMuch
from neverpenned.regions import Region

RING = [(0, 0), (1, 0), (2, 0), (0, 1), (2, 1), (0, 2), (1, 2), (2, 2)]
DIAMOND = [(1, 0), (0, 1), (-1, 0), (0, -1)]


def snake(width, height):
    """One long row of cells: every other line of a box, linked at its two ends by turns."""
    return [(x, y) for x in range(width) for y in range(height) if y % 2 == 0 or x == (y % 4 - 1) * (width - 1) // 2]


def joined(cells, linked):
    """The sets of the cells that the links connect, by joining two sets again and again."""
    groups = [{cell} for cell in cells]
    for cell in cells:
        near = [group for group in groups if cell in group or any(other in group for other in linked(cell))]
        groups = [group for group in groups if group not in near] + [set().union(*near)]
    return sorted(sorted(group) for group in groups)


def told(regions):
    return [list(region.cells) for region in regions]


def wanted_holes(cells):
    """The holes by the words of the document: from the cells outside of the region, look for a way out of the box."""
    xs, ys = [x for x, y in cells], [y for x, y in cells]
    around = [(x, y) for x in range(min(xs) - 1, max(xs) + 2) for y in range(min(ys) - 1, max(ys) + 2)
              if (x, y) not in cells]
    return [group for group in joined(around, touching) if (min(xs) - 1, min(ys) - 1) not in group]


class ComponentsTest(PlayCase):
    def test_no_components(self):
        self.same(components(Region()), [])

    def test_one_component(self):
        region = Region([(1, 1), (0, 0), (1, 0)])
        found = components(region)
        self.same(told(found), [[(0, 0), (1, 0), (1, 1)]])
        self.assertIs(type(found[0]), Region)
        found[0] -= found[0]
        self.same(len(region), 3)

    def test_corners_do_not_connect(self):
        self.same(told(components(Region(DIAMOND))), [[(-1, 0)], [(0, -1)], [(0, 1)], [(1, 0)]])

    def test_the_order_of_the_least_cells(self):
        region = Region([(5, 0), (4, 0), (3, 9), (0, 7), (0, 8), (1, 8), (2, 8), (0, -120), (120, 120)])
        self.same(told(components(region)), [[(0, -120)], [(0, 7), (0, 8), (1, 8), (2, 8)], [(3, 9)],
                                             [(4, 0), (5, 0)], [(120, 120)]])

    def test_cells_at_the_rim_of_the_board(self):
        corners = Region([(-120, -120), (-120, 120), (120, -120), (120, 120), (119, 120)])
        self.same([len(region) for region in components(corners)], [1, 1, 2, 1])

    def test_all_small_regions(self):
        for code in range(2 ** 9):
            cells = grid_cells(code, 3, 3)
            self.assertEqual(told(components(Region(cells))), joined(cells, neighbours), cells)

    def test_long_narrow_regions(self):
        line = Region([(x, 120) for x in range(-120, 121)])
        self.same([len(region) for region in components(line)], [241])
        row = Region(snake(60, 25))
        self.same((len(row), [len(region) for region in components(row)]), (792, [792]))
        self.same([len(region) for region in components(row - Region([(59, 3)]))], [121, 670])
        comb = Region([(x, y) for x in range(40) for y in range(20) if x % 2 == 0 or y == 0])
        self.same([len(region) for region in components(comb)], [420])

    def test_eight_hundred_components(self):
        region = Region([(2 * x, 2 * y) for x in range(40) for y in range(20)])
        self.same(told(components(region)), [[cell] for cell in region.cells])

    def test_the_list_is_new(self):
        region = Region(DIAMOND)
        components(region).clear()
        self.same(len(components(region)), 4)
        self.same(len(region), 4)


class HolesTest(PlayCase):
    def test_no_holes(self):
        for cells in ([], [(0, 0)], [(0, 0), (1, 1)], DIAMOND[:3], [cell for cell in RING if cell != (2, 1)]):
            self.same(holes(Region(cells)), [])

    def test_a_ring_has_a_hole(self):
        found = holes(Region(RING))
        self.same(told(found), [[(1, 1)]])
        self.assertIs(type(found[0]), Region)

    def test_corners_let_steps_pass(self):
        self.same(holes(Region(DIAMOND)), [])
        for corner in ((0, 0), (0, 2), (2, 0), (2, 2)):
            self.same(holes(Region([cell for cell in RING if cell != corner])), [])

    def test_cells_that_touch_at_corners_form_one_hole(self):
        wall = [(x, y) for x in range(4) for y in range(4) if (x, y) not in ((1, 1), (2, 2))]
        self.same(told(holes(Region(wall))), [[(1, 1), (2, 2)]])

    def test_the_order_of_the_least_cells(self):
        region = Region(RING) | Region(RING).shifted(2, 5) | Region(RING).shifted(-4, 9)
        self.same(told(holes(region)), [[(-3, 10)], [(1, 1)], [(3, 6)]])

    def test_a_part_in_a_hole(self):
        outer = [(x, y) for x in range(5) for y in range(5) if x in (0, 4) or y in (0, 4)]
        region = Region([*outer, (2, 2)])
        ring = [(1, 1), (1, 2), (1, 3), (2, 1), (2, 3), (3, 1), (3, 2), (3, 3)]
        self.same(told(holes(region)), [ring])
        self.same(len(filled(region)), 25)
        nested = Region([*outer, *ring]) - Region([(2, 2)])
        self.same(told(holes(nested)), [[(2, 2)]])

    def test_a_hole_that_is_not_straight(self):
        wall = Region([(x, y) for x in range(7) for y in range(5)])
        bent = Region([(1, 1), (1, 2), (1, 3), (2, 3), (3, 2), (4, 1), (5, 1)])
        self.same(told(holes(wall - bent)), [list(bent.cells)])
        way_out = Region([(6, 2)])
        self.same(holes(wall - bent - way_out), [])

    def test_rings_at_the_corners_of_the_board(self):
        for east, north, cell in ((-120, -120, (-119, -119)), (118, 118, (119, 119)), (118, -120, (119, -119))):
            self.same(told(holes(Region(RING).shifted(east, north))), [[cell]])

    def test_cells_at_the_rim_of_the_board_are_no_holes(self):
        cup = Region([(118, 0), (119, 1), (120, 1), (118, 1), (119, -1), (120, -1), (118, -1)])
        self.same(holes(cup), [])
        corner = Region([(119, 119), (119, 120), (120, 119)])
        self.same(holes(corner), [])

    def test_many_regions(self):
        for code in (*range(0, 2 ** 12, 7), 2 ** 12 - 1):
            self.check(grid_cells(code, 4, 3))
        for code in scattered(150, 2 ** 20):
            self.check(grid_cells(code | code << 20 & 2 ** 25 - 1, 5, 5))
            self.check(grid_cells(~(code & code >> 3), 5, 4))

    def check(self, cells):
        region = Region(cells)
        wanted = wanted_holes(cells) if cells else []
        self.assertEqual(told(holes(region)), wanted, cells)
        full = filled(region)
        self.assertIs(type(full), Region)
        self.assertEqual(list(full.cells), sorted([*cells, *sum(wanted, [])]), cells)
        self.assertEqual(list(region.cells), sorted(cells))

    def test_filled(self):
        region = Region(RING)
        full = filled(region)
        self.same(full.cells, tuple(sorted([*RING, (1, 1)])))
        self.same(len(region), 8)
        self.same(filled(Region()).cells, ())

    def test_what_is_filled_is_new(self):
        region = Region([(0, 0), (0, 1)])
        full = filled(region)
        full -= full
        self.same((len(region), len(filled(region))), (2, 2))
        holes(Region(RING)).clear()
        self.same(len(holes(Region(RING))), 1)

    def test_the_greatest_area(self):
        rim = Region([(x, y) for x in range(40) for y in range(20) if x in (0, 39) or y in (0, 19)])
        self.same((rim.box.area, [len(hole) for hole in holes(rim)], len(filled(rim))), (800, [38 * 18], 800))
        for far in ((88, 8), (-8, 88), (119, 119)):
            region = Region([(0, 0), far])
            self.assertTrue(region.box.area > 800)
            self.refused(TooMuch, {"most": 800}, holes, region)
            self.refused(TooMuch, {"most": 800}, filled, region)
        self.assertEqual(Region([(0, 0), (88, 8)]).box.area, 801)
        self.same(len(components(Region([(0, 0), (119, 119)]))), 2)

    def test_long_narrow_regions(self):
        line = Region([(x, 0) for x in range(-120, 121)])
        self.same((holes(line), filled(line) == line), ([], True))
        row = Region(snake(38, 17)).shifted(1, 1)
        wall = Region([(x, y) for x in range(40) for y in range(19)]) - row
        self.same([hole.cells for hole in holes(wall)], [row.cells])
        self.same(len(filled(wall)), 760)
        self.same(holes(wall - Region([(39, 1)])), [])


if __name__ == "__main__":
    unittest.main()
