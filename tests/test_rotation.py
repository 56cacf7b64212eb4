import unittest

from support import PlayCase, around, backward, closed_walk, grid_cells, scattered, strolls

from neverpenned.components import components, holes
from neverpenned.contours import contours
from neverpenned.errors import BadLetter
from neverpenned.loops import Loop
from neverpenned.regions import Region
from neverpenned.rotation import euler, turn_sum
from neverpenned.symmetries import Symmetry
from neverpenned.turnwords import word_of

CELL = around(0, 0, 0, 0)


class TurnSumTest(PlayCase):
    def test_turn_sums(self):
        self.same(turn_sum(Loop()), 0)
        self.same([turn_sum(Loop(CELL * many)) for many in (1, 2, 5)], [4, 8, 20])
        self.same([turn_sum(Loop(backward(CELL) * many)) for many in (1, 2, 5)], [-4, -8, -20])
        self.same(turn_sum(Loop(around(-120, -120, 120, 120))), 4)
        stair = contours(Region([(0, 0), (1, 0), (1, 1)]))[0]
        self.same((turn_sum(stair), turn_sum(-stair), turn_sum(stair.begun_at(3))), (4, -4, 4))

    def test_a_loop_that_crosses_itself(self):
        # From (0, 0) to the east and to the left around, then straight through the beginning and to the right around.
        edges = closed_walk([(1, 0), (0, 1), (-1, 0), (0, -1), (0, -1), (-1, 0), (0, 1), (1, 0)])
        self.same((word_of(Loop(edges)), turn_sum(Loop(edges))), ("lllsrrrs", 0))

    def test_loops_that_turn_about(self):
        edge = ((0, 0), (1, 0))
        self.refused(BadLetter, {"at": 0}, turn_sum, Loop([edge, edge[::-1]]))
        self.refused(BadLetter, {"at": 3}, turn_sum, Loop(CELL + backward(CELL)))

    def test_many_loops(self):
        for edges in strolls(200, 9):
            if all(edges[at] != edges[at - 1][::-1] for at in range(len(edges))):
                word = word_of(Loop(edges))
                self.same(turn_sum(Loop(edges)), sum({"l": 1, "s": 0, "r": -1}[letter] for letter in word))

    def test_images(self):
        loop = Loop(CELL * 2)
        self.same([turn_sum(loop.image(Symmetry(code))) for code in range(8)], [8, 8, 8, 8, -8, -8, -8, -8])


class EulerTest(PlayCase):
    def test_regions(self):
        self.same(euler(Region()), 0)
        self.same(euler(Region([(0, 0)])), 1)
        self.same(euler(Region([(1, 0), (0, 1), (-1, 0), (0, -1)])), 4)
        ring = Region([(x, y) for x in range(3) for y in range(3) if (x, y) != (1, 1)])
        self.same([euler(ring), euler(ring | ring.shifted(2, 0)), euler(ring | ring.shifted(5, 5))], [0, -1, 0])
        wide = Region([(x, y) for x in range(5) for y in range(5) if x in (0, 4) or y in (0, 4) or (x, y) == (2, 2)])
        self.same(euler(wide), 1)
        sieve = Region([(x, y) for x in range(29) for y in range(29) if x % 2 == 0 or y % 2 == 0])
        self.same(euler(sieve), 1 - 14 * 14)
        self.same(euler(Region([(2 * x, 2 * y) for x in range(40) for y in range(20)])), 800)

    def test_cells_that_touch_at_corners(self):
        for cells in (((0, 0), (1, 1)), ((0, 1), (1, 0))):
            self.same(euler(Region(cells)), 2)
        wall = Region([(x, y) for x in range(4) for y in range(4) if (x, y) not in ((1, 1), (2, 2))])
        self.same(euler(wall), 0)

    def test_all_small_regions(self):
        for code in range(2 ** 9):
            self.check(Region(grid_cells(code, 3, 3)))
        for code in scattered(100, 2 ** 23):
            self.check(Region(grid_cells(code | code << 13, 6, 6)))

    def check(self, region):
        self.same(euler(region), len(components(region)) - len(holes(region)))
        self.same(sum(turn_sum(loop) for loop in contours(region)), 4 * euler(region))

    def test_regions_whose_box_is_large(self):
        # The box of these has more cells than holes() accepts.
        far = Region([(-120, -120), (120, 120), (120, -120), (-120, 119), (-120, 120)])
        self.same(euler(far), 4)
        ring = Region(sorted({cell for cell in grid_cells(2 ** 25 - 1, 5, 5) if 0 in cell or 4 in cell}))
        self.same(euler(ring | ring.shifted(100, 100) | Region([(-50, 50)])), 1)


if __name__ == "__main__":
    unittest.main()
