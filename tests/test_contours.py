import unittest

from support import FAR, PlayCase, around, backward, grid_cells, scattered

from neverpenned.boundaries import boundary, next_edge
from neverpenned.components import components
from neverpenned.contours import contour_through, contours
from neverpenned.errors import BadEdge, NotBoundary
from neverpenned.loops import Loop
from neverpenned.regions import Region

STAIR = Region([(0, 0), (1, 0), (1, 1)])
STAIR_WALK = [((0, 0), (-1, 0)), ((0, 0), (0, -1)), ((1, 0), (1, -1)), ((1, 0), (2, 0)), ((1, 1), (2, 1)),
              ((1, 1), (1, 2)), ((1, 1), (0, 1)), ((0, 0), (0, 1))]
# A ring of breadth 1 around a cell that has a ring of breadth 1 around it.
RINGS = Region([(x, y) for x in range(5) for y in range(5) if x in (0, 4) or y in (0, 4) or (x, y) == (2, 2)])


def turned_to_least(edges):
    """The same loop, beginning with its least edge."""
    at = edges.index(min(edges))
    return tuple(edges[at:] + edges[:at])


class ContoursTest(PlayCase):
    def test_no_contours(self):
        self.same(contours(Region()), [])

    def test_one_contour(self):
        found = contours(STAIR)
        self.assertEqual([type(found), type(found[0])], [list, Loop])
        self.same([loop.edges for loop in found], [tuple(STAIR_WALK)])

    def test_a_hole_with_an_island(self):
        wanted = [turned_to_least(around(0, 0, 4, 4)), turned_to_least(backward(around(1, 1, 3, 3))),
                  turned_to_least(around(2, 2, 2, 2))]
        self.same([loop.edges for loop in contours(RINGS)], wanted)
        self.same([loop.edges[0] for loop in contours(RINGS)], [((0, 0), (-1, 0)), ((0, 1), (1, 1)), ((2, 2), (1, 2))])
        self.same([loop.area for loop in contours(RINGS)], [25, -9, 1])

    def test_cells_that_touch_at_corners(self):
        diamond = Region([(1, 0), (0, 1), (-1, 0), (0, -1)])
        self.same([loop.edges for loop in contours(diamond)],
                  [turned_to_least(around(x, y, x, y)) for x, y in diamond])
        # Around a hole of two cells that touch, one loop goes.
        wall = Region([(x, y) for x in range(4) for y in range(4) if (x, y) not in ((1, 1), (2, 2))])
        self.same([len(loop) for loop in contours(wall)], [16, 8])
        self.same(contours(wall)[1].windings(), {(1, 1): -1, (2, 2): -1})

    def test_many_regions(self):
        for code in range(2 ** 9):
            self.check(Region(grid_cells(code, 3, 3)))
        for code in scattered(60, 2 ** 23):
            self.check(Region(grid_cells(code | code << 13, 6, 6)).shifted(-3, -3))

    def check(self, region):
        """Each boundary edge belongs to exactly one contour, in which each edge has the next edge behind it."""
        found = contours(region)
        self.assertEqual(sorted(edge for loop in found for edge in loop), boundary(region))
        self.assertEqual([loop.edges[0] for loop in found], sorted(min(loop.edges) for loop in found))
        for loop in found:
            for at, edge in enumerate(loop.edges):
                self.assertEqual(next_edge(region, loop.edges[at - 1]), edge)

    def test_regions_at_the_rim_of_the_board(self):
        corners = Region([(-120, -120), (-120, 120), (120, -120), (120, 120)])
        self.same([loop.edges for loop in contours(corners)],
                  [turned_to_least(around(x, y, x, y)) for x, y in corners])
        line = Region([(x, 120) for x in range(-120, 121)])
        self.same([loop.edges for loop in contours(line)], [turned_to_least(around(-120, 120, 120, 120))])

    def test_large_regions(self):
        lonely = Region([(2 * x, 2 * y) for x in range(40) for y in range(20)])
        self.same([loop.edges for loop in contours(lonely)],
                  [turned_to_least(around(x, y, x, y)) for x, y in lonely])
        comb = Region([(x, y) for x in range(40) for y in range(40) if x % 2 == 0 or y == 0][:800])
        self.same([len(loop) for loop in contours(comb)], [2 * 800 + 2])
        self.same(len(components(comb)), 1)
        sieve = Region([(x, y) for x in range(29) for y in range(29) if x % 2 == 0 or y % 2 == 0])
        self.same(len(contours(sieve)), 1 + 14 * 14)

    def test_the_list_is_new(self):
        self.fresh(contours, RINGS)

    def test_a_region_that_is_changed_behind_its_contours(self):
        region = Region([(0, 0), (1, 0)])
        found = contours(region)
        kept = [loop.edges for loop in found]
        through = contour_through(region, ((0, 0), (0, 1)))
        second = region
        second |= Region([(1, 1)])
        self.same([loop.edges for loop in found], kept)
        self.same(through.edges, (((0, 0), (0, 1)), ((0, 0), (-1, 0)), ((0, 0), (0, -1)), ((1, 0), (1, -1)),
                                  ((1, 0), (2, 0)), ((1, 0), (1, 1))))
        self.same([loop.edges for loop in contours(region)], [tuple(STAIR_WALK)])
        second -= second
        self.same((contours(region), found[0].area), ([], 2))


class ContourThroughTest(PlayCase):
    def test_each_edge(self):
        for at, edge in enumerate(STAIR_WALK):
            loop = contour_through(STAIR, edge)
            self.assertIs(type(loop), Loop)
            self.same(loop.edges, tuple(STAIR_WALK[at:] + STAIR_WALK[:at]))

    def test_the_contour_that_has_the_edge(self):
        edges = (((0, 0), (0, -1)), ((4, 1), (3, 1)), ((2, 2), (2, 3)))
        self.same([len(contour_through(RINGS, edge)) for edge in edges], [20, 12, 4])
        for loop in contours(RINGS):
            for edge in loop:
                begun = contour_through(RINGS, edge)
                self.same(begun.edges[0], edge)
                self.same(turned_to_least(list(begun)), loop.edges)

    def test_the_order_of_the_checks(self):
        for edge in (((0, 0), (0, 0)), ((0, 0), (1, 1)), ((121, 0), (122, 0)), ((0, -122), (0, -121)),
                     ((0, 0), (FAR, 0))):
            for region in (STAIR, Region()):
                self.refused(BadEdge, {"edge": edge}, contour_through, region, edge)
        for edge in (((-1, 0), (0, 0)), ((0, 0), (1, 0)), ((7, 7), (7, 8)), ((121, 120), (121, 121))):
            for region in (STAIR, Region()):
                self.refused(NotBoundary, {"edge": edge}, contour_through, region, edge)
        self.refused(NotBoundary, {"edge": STAIR_WALK[0]}, contour_through, Region(), STAIR_WALK[0])

    def test_regions_at_the_rim_of_the_board(self):
        edge = ((120, 120), (121, 120))
        self.same(contour_through(Region([(120, 120)]), edge).edges[:2], (edge, ((120, 120), (120, 121))))
        self.refused(NotBoundary, {"edge": edge[::-1]}, contour_through, Region([(120, 120)]), edge[::-1])


if __name__ == "__main__":
    unittest.main()
