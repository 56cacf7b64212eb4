import unittest

from support import PlayCase, around, backward, grid_cells, scattered, strolls, wanted_windings

from neverpenned.contours import contours
from neverpenned.errors import NoRegion, TooMany, TooMuch
from neverpenned.filling import region_of, total_windings
from neverpenned.loops import Loop
from neverpenned.regions import Region

CELL = around(0, 0, 0, 0)


def cells_of(west, south, east, north):
    return [(x, y) for x in range(west, east + 1) for y in range(south, north + 1)]


class TotalWindingsTest(PlayCase):
    def test_no_loops(self):
        for loops in ([], (), [Loop()], [Loop()] * 400):
            self.same(total_windings(loops), {})

    def test_sums(self):
        loop = Loop(around(0, 0, 1, 1))
        self.same(total_windings([loop]), {(0, 0): 1, (0, 1): 1, (1, 0): 1, (1, 1): 1})
        self.same(total_windings((loop, Loop(CELL))), {(0, 0): 2, (0, 1): 1, (1, 0): 1, (1, 1): 1})
        self.same(total_windings([loop, -Loop(CELL)]), {(0, 1): 1, (1, 0): 1, (1, 1): 1})
        self.same(total_windings([loop, Loop(), -loop]), {})
        self.same(total_windings([Loop(around(5, 0, 5, 0)), -Loop(around(-3, 2, -2, 2)), Loop(CELL)]),
                  {(-3, 2): -1, (-2, 2): -1, (0, 0): 1, (5, 0): 1})

    def test_many_loops(self):
        walks = list(strolls(60, 13))
        for many in range(1, 30):
            wanted = wanted_windings([edge for edges in walks[many:2 * many] for edge in edges])
            self.same(total_windings([Loop(edges) for edges in walks[many:2 * many]]), wanted)

    def test_the_number_of_loops(self):
        loop = Loop(CELL)
        self.same(total_windings([loop] * 400), {(0, 0): 400})
        self.same(total_windings([loop, -loop] * 200), {})
        for call in (total_windings, region_of):
            self.refused(TooMany, {"most": 400}, call, [loop] * 401)
            self.refused(TooMany, {"most": 400}, call, [Loop()] * 401)
            self.refused(TooMany, {"most": 400}, call, [Loop(around(-120, -120, 120, 120))] * 401)

    def test_the_greatest_rectangle(self):
        # One cell with its neighbours has 3 by 3 cells; two such squares in one rectangle of 50 by 100 cells.
        for far in ((47, 97), (97, 47), (-47, 97), (47, -97), (-97, -47)):
            wanted = {cell: 1 for cell in sorted([(0, 0), far])}
            self.same(total_windings([Loop(CELL), Loop(around(*far, *far))]), wanted)
        # 41 by 122 cells are 5002; no rectangle has 5001.
        for far in ((38, 119), (-119, 38), (38, -119), (119, 119)):
            for call in (total_windings, region_of):
                self.refused(TooMuch, {"most": 5000}, call, [Loop(CELL), Loop(around(*far, *far))])
                self.refused(TooMuch, {"most": 5000}, call, [Loop(), Loop(backward(around(*far, *far))), Loop(CELL)])
        for call in (total_windings, region_of):
            self.refused(TooMuch, {"most": 5000}, call, [Loop(around(0, 0, 38, 119))])
            self.refused(TooMuch, {"most": 5000}, call, [-Loop(around(0, 0, 38, 119)), Loop(around(0, 0, 38, 119))])

    def test_the_dict_is_new_and_nothing_is_changed(self):
        loops = [Loop(around(0, 0, 1, 0)), Loop()]
        found = total_windings(loops)
        found.clear()
        found[7, 7] = 1
        self.same(total_windings(loops), {(0, 0): 1, (1, 0): 1})
        self.same([loop.edges for loop in loops], [tuple(around(0, 0, 1, 0)), ()])
        self.same(loops[0].windings(), {(0, 0): 1, (1, 0): 1})

    def test_many_long_loops(self):
        loops = [Loop(around(-10, -10, 14, 14) * 20), Loop(backward(around(-10, -10, 14, 14)) * 20)] * 50
        self.same(total_windings(loops), {})
        self.same(total_windings([*loops, Loop(CELL)]), {(0, 0): 1})


class RegionOfTest(PlayCase):
    def test_regions(self):
        region = region_of([Loop(around(0, 0, 1, 1)), -Loop(CELL)])
        self.assertIs(type(region), Region)
        self.same(region.cells, ((0, 1), (1, 0), (1, 1)))
        self.same(region_of((Loop(CELL), Loop(around(4, 5, 4, 5)))).cells, ((0, 0), (4, 5)))
        for loops in ([], (), [Loop()], [Loop(CELL), -Loop(CELL)]):
            self.same(region_of(loops).cells, ())

    def test_contours_are_read_back(self):
        for code in range(2 ** 9):
            self.read_back(Region(grid_cells(code, 3, 3)))
        for code in scattered(60, 2 ** 23):
            self.read_back(Region(grid_cells(code | code << 13, 6, 6)).shifted(-3, -3))
        for region in (Region([(-120, -120), (-120, -119)]), Region([(120, 120), (119, 119)])):
            self.read_back(region)

    def read_back(self, region):
        loops = contours(region)
        self.same(region_of(loops).cells, region.cells)
        self.same(region_of([loop.begun_at(1) for loop in reversed(loops)]).cells, region.cells)
        self.same(total_windings(loops), {cell: 1 for cell in region.cells})

    def test_a_hole_with_an_island(self):
        rings = Region([(x, y) for x in range(5) for y in range(5) if x in (0, 4) or y in (0, 4) or (x, y) == (2, 2)])
        loops = contours(rings)
        self.assertEqual(region_of(loops), rings)
        self.same(region_of(loops[:1]).cells, tuple(cells_of(0, 0, 4, 4)))
        self.same(region_of(loops[:2]).cells, (rings - Region([(2, 2)])).cells)
        self.refused(NoRegion, {"cell": (2, 2)}, region_of, [loops[0], loops[2]])
        self.refused(NoRegion, {"cell": (1, 1)}, region_of, loops[1:])

    def test_sums_that_are_neither_0_nor_1(self):
        self.refused(NoRegion, {"cell": (0, 0)}, region_of, [Loop(CELL * 2)])
        self.refused(NoRegion, {"cell": (0, 0)}, region_of, [-Loop(CELL)])
        self.refused(NoRegion, {"cell": (0, 0)}, region_of, [Loop(CELL)] * 3)
        self.refused(NoRegion, {"cell": (-5, 9)}, region_of, [Loop(around(-6, 9, 3, 9)), Loop(around(-5, 9, 3, 9))])
        # The least cell, whether its sum is too great or too small.
        two, minus = Loop(around(1, 0, 1, 0) * 2), Loop(backward(CELL))
        self.refused(NoRegion, {"cell": (0, 0)}, region_of, [two, minus])
        self.refused(NoRegion, {"cell": (1, 0)}, region_of, [two, Loop(CELL), -Loop(around(1, 1, 1, 1))])
        south = Loop(backward(around(1, -7, 1, -7)))
        self.refused(NoRegion, {"cell": (1, -7)}, region_of, [two, south, Loop(around(0, 9, 0, 9))])

    def test_the_number_of_cells(self):
        self.same(len(region_of([Loop(around(0, 0, 39, 19))])), 800)
        self.same(len(region_of([Loop(around(3, 3, 5, 29)), Loop(around(-30, 3, -30, 30))])), 81 + 28)
        self.refused(TooMany, {"most": 800}, region_of, [Loop(around(0, 0, 39, 19)), Loop(around(40, 0, 40, 0))])
        self.refused(TooMany, {"most": 800}, region_of, [Loop(around(0, 0, 8, 88))])
        self.refused(TooMany, {"most": 800}, region_of, [Loop(around(0, 0, 47, 97))])
        # A sum that no region has comes first.
        large = Loop(around(0, 0, 40, 20))
        self.refused(NoRegion, {"cell": (39, 19)}, region_of, [large, Loop(around(39, 19, 39, 19))])
        self.refused(NoRegion, {"cell": (50, 2)}, region_of, [large, -Loop(around(50, 2, 50, 2))])
        # It is the sum that counts, not what a part of the loops goes around.
        self.same(len(region_of([Loop(around(0, 0, 40, 19)), -Loop(around(40, 0, 40, 19))])), 800)


if __name__ == "__main__":
    unittest.main()
