import unittest

from support import FAR, PlayCase, grid_cells

from neverpenned.banks import Bank
from neverpenned.boundaries import boundary, boundary_length, is_boundary, next_edge, previous_edge, step_letter
from neverpenned.cells import neighbours
from neverpenned.edges import ahead, begin, edge_image, end
from neverpenned.errors import BadEdge, NotBoundary
from neverpenned.regions import Region
from neverpenned.symmetries import Symmetry

STAIR = Region([(0, 0), (1, 0), (1, 1)])
WALKERS = (next_edge, previous_edge, step_letter)


class IsBoundaryTest(PlayCase):
    def test_boundary_edges(self):
        self.same(is_boundary(STAIR, ((0, 0), (-1, 0))), True)
        self.same(is_boundary(STAIR, ((-1, 0), (0, 0))), False)
        self.same(is_boundary(STAIR, ((0, 0), (1, 0))), False)
        self.same(is_boundary(STAIR, ((5, 5), (5, 6))), False)
        self.same(is_boundary(Region(), ((0, 0), (-1, 0))), False)

    def test_a_region_at_the_rim_of_the_board(self):
        corner = Region([(120, 120)])
        self.same(is_boundary(corner, ((120, 120), (121, 120))), True)
        self.same(is_boundary(corner, ((121, 120), (120, 120))), False)
        self.same(is_boundary(corner, ((121, 121), (121, 120))), False)

    def test_a_ground_without_bounds(self):
        for y in (-121, 0, 121):
            self.same(is_boundary(Bank(), ((-1, y), (0, y))), True)
            self.same(is_boundary(Bank(), ((0, y), (-1, y))), False)
        self.same(is_boundary(Bank([(0, 4)]), ((-1, 4), (0, 4))), False)
        self.same(is_boundary(Bank([(0, 4)]), ((0, 4), (1, 4))), True)

    def test_wrong_edges(self):
        for edge in (((0, 0), (0, 0)), ((0, 0), (1, 1)), ((121, 0), (122, 0)), ((0, -121), (0, -122)),
                     ((FAR, 0), (FAR, 1))):
            self.refused(BadEdge, {"edge": edge}, is_boundary, STAIR, edge)
            self.refused(BadEdge, {"edge": edge}, is_boundary, Region(), edge)


class StepsTest(PlayCase):
    def test_the_steps_around_a_cell_are_left_turns(self):
        region = Region([(3, 4)])
        walk = [((3, 4), (2, 4)), ((3, 4), (3, 3)), ((3, 4), (4, 4)), ((3, 4), (3, 5))]
        for at in range(4):
            self.same(next_edge(region, walk[at - 1]), walk[at])
            self.same(previous_edge(region, walk[at]), walk[at - 1])
            self.same(step_letter(region, walk[at]), "l")

    def test_the_steps_around_a_stair(self):
        walk = [((0, 0), (-1, 0)), ((0, 0), (0, -1)), ((1, 0), (1, -1)), ((1, 0), (2, 0)), ((1, 1), (2, 1)),
                ((1, 1), (1, 2)), ((1, 1), (0, 1)), ((0, 0), (0, 1))]
        for at in range(8):
            self.same(next_edge(STAIR, walk[at - 1]), walk[at])
            self.same(previous_edge(STAIR, walk[at]), walk[at - 1])
        self.same([step_letter(STAIR, edge) for edge in walk], list("lslsllrl"))

    def test_cells_that_touch_at_a_corner_are_walked_apart(self):
        region = Region([(0, 0), (1, 1)])
        self.same(step_letter(region, ((0, 0), (1, 0))), "l")
        self.same(next_edge(region, ((0, 0), (1, 0))), ((0, 0), (0, 1)))
        self.same(previous_edge(region, ((0, 0), (0, 1))), ((0, 0), (1, 0)))

    def test_a_hole_is_walked_around(self):
        ring = Region([(x, y) for x in range(3) for y in range(3) if (x, y) != (1, 1)])
        self.same(step_letter(ring, ((0, 1), (1, 1))), "r")
        self.same(next_edge(ring, ((0, 1), (1, 1))), ((1, 2), (1, 1)))
        self.same(previous_edge(ring, ((0, 1), (1, 1))), ((1, 0), (1, 1)))

    def test_a_ground_without_bounds(self):
        shore = Bank()
        self.same(next_edge(shore, ((-1, 0), (0, 0))), ((-1, 1), (0, 1)))
        self.same(previous_edge(shore, ((-1, 0), (0, 0))), ((-1, -1), (0, -1)))
        self.same(step_letter(shore, ((-1, 0), (0, 0))), "s")
        bank = Bank([(0, 2)])
        edges = [((-1, 1), (0, 1))]
        for _ in range(4):
            edges.append(next_edge(bank, edges[-1]))
        self.same(edges[1:], [((0, 2), (0, 1)), ((0, 2), (1, 2)), ((0, 2), (0, 3)), ((-1, 3), (0, 3))])
        self.same([step_letter(bank, edge) for edge in edges], list("rllrs"))
        for at in range(4):
            self.same(previous_edge(bank, edges[at + 1]), edges[at])

    def test_banks_at_the_reach_and_one_cell_beyond_it(self):
        bank = Bank([(0, 120), (0, -120), (5, 120), (120, 120)])
        walk = [((-1, 119), (0, 119)), ((0, 120), (0, 119)), ((0, 120), (1, 120)), ((0, 120), (0, 121)),
                ((-1, 121), (0, 121)), ((-1, 122), (0, 122))]
        for at in range(5):
            self.same(next_edge(bank, walk[at]), walk[at + 1])
            if at > 0:
                self.same(previous_edge(bank, walk[at]), walk[at - 1])
        self.same([step_letter(bank, edge) for edge in walk[:5]], list("rllrs"))
        walk = [((-1, -122), (0, -122)), ((-1, -121), (0, -121)), ((0, -120), (0, -121)), ((0, -120), (1, -120)),
                ((0, -120), (0, -119)), ((-1, -119), (0, -119))]
        for at in range(1, 5):
            self.same(next_edge(bank, walk[at]), walk[at + 1])
            self.same(previous_edge(bank, walk[at]), walk[at - 1])
        around = [((120, 120), other) for other in ((119, 120), (120, 119), (121, 120), (120, 121))]
        for at in range(4):
            self.same(next_edge(bank, around[at - 1]), around[at])
            self.same(previous_edge(bank, around[at]), around[at - 1])

    def test_the_rule_of_the_document_in_small_banks(self):
        for code in range(0, 2 ** 9):
            bank = Bank(grid_cells(code, 3, 3))
            cells = [(x, y) for x in range(-1, 3) for y in range(-1, 4)]
            edges = [(cell, other) for cell in cells for other in neighbours(cell) if is_boundary(bank, (cell, other))]
            for edge in edges:
                after = next_edge(bank, edge)
                self.same((after, step_letter(bank, edge)), self.wanted(bank, edge))
                self.same(is_boundary(bank, after), True)
                self.same(previous_edge(bank, after), edge)
                self.same(next_edge(bank, previous_edge(bank, edge)), edge)
            # The boundary is longer than that of the shore by the growth.
            self.assertEqual(len(edges), 5 + bank.growth)

    def test_edges_that_are_no_boundary_edges_of_a_bank(self):
        bank = Bank([(0, 0), (1, 0)])
        for edge in (((-1, 0), (0, 0)), ((0, 0), (-1, 0)), ((0, 0), (1, 0)), ((0, 1), (-1, 1)), ((-1, 0), (-2, 0)),
                     ((-121, 121), (-120, 121)), ((1, 1), (1, 0)), ((121, 121), (121, 120))):
            self.same(is_boundary(bank, edge), False)
            for call in WALKERS:
                self.refused(NotBoundary, {"edge": edge}, call, bank, edge)
        for edge in (((-1, 122), (0, 122)), ((-122, 0), (-121, 0)), ((-1, 5), (1, 5)), ((0, FAR), (0, FAR))):
            for call in (is_boundary, *WALKERS):
                self.refused(BadEdge, {"edge": edge}, call, bank, edge)

    def test_edges_that_are_returned_may_lie_farther(self):
        self.same(next_edge(Bank(), ((-1, 121), (0, 121))), ((-1, 122), (0, 122)))
        self.same(previous_edge(Bank(), ((-1, -121), (0, -121))), ((-1, -122), (0, -122)))
        self.same(step_letter(Bank(), ((-1, 121), (0, 121))), "s")

    def test_regions_at_the_rim_of_the_board(self):
        corner = Region([(120, 120)])
        self.same(next_edge(corner, ((120, 120), (121, 120))), ((120, 120), (120, 121)))
        self.same(previous_edge(corner, ((120, 120), (121, 120))), ((120, 120), (120, 119)))
        self.same(next_edge(Region([(-120, -120)]), ((-120, -120), (-121, -120))), ((-120, -120), (-120, -121)))

    def test_the_order_of_the_checks(self):
        for call in WALKERS:
            for edge in (((0, 0), (2, 0)), ((121, 0), (122, 0)), ((0, 0), (0, FAR))):
                self.refused(BadEdge, {"edge": edge}, call, STAIR, edge)
            for edge in (((-1, 0), (0, 0)), ((0, 0), (1, 0)), ((7, 7), (7, 8)), ((121, 120), (121, 121))):
                self.refused(NotBoundary, {"edge": edge}, call, STAIR, edge)
            self.refused(NotBoundary, {"edge": ((0, 0), (1, 0))}, call, Region(), ((0, 0), (1, 0)))
            self.refused(NotBoundary, {"edge": ((0, 0), (-1, 0))}, call, Bank(), ((0, 0), (-1, 0)))

    def test_the_rule_of_the_document_in_all_small_regions(self):
        for code in range(2 ** 9):
            region = Region(grid_cells(code, 3, 3)).shifted(-1, -1)
            followers = []
            for edge in boundary(region):
                after = next_edge(region, edge)
                self.same(after, self.wanted(region, edge)[0])
                self.same(step_letter(region, edge), self.wanted(region, edge)[1])
                self.assertEqual(begin(after), end(edge))
                self.same(previous_edge(region, after), edge)
                followers.append(after)
            self.assertEqual(sorted(followers), boundary(region))

    def wanted(self, region, edge):
        left, right = edge
        c, d = ahead(edge)
        if c not in region:
            return ((left, c), "l")
        if d not in region:
            return ((c, d), "s")
        return ((d, right), "r")

    def test_turned_regions_have_turned_steps(self):
        region = Region([(0, 0), (1, 0), (1, 1), (3, 1), (2, 2), (0, 2)])
        for code in range(8):
            symmetry = Symmetry(code)
            image = region.image(symmetry)
            for edge in boundary(region):
                moved = edge_image(edge, symmetry)
                if symmetry.mirrors:
                    # A mirrored walk has the region on its right hand; turned about, it has it on its left hand.
                    moved = (moved[1], moved[0])
                    self.same(step_letter(image, moved), step_letter(region, previous_edge(region, edge)))
                else:
                    self.same(step_letter(image, moved), step_letter(region, edge))


class BoundaryTest(PlayCase):
    def test_the_edges_are_ascending(self):
        self.same(boundary(STAIR), [((0, 0), (-1, 0)), ((0, 0), (0, -1)), ((0, 0), (0, 1)), ((1, 0), (1, -1)),
                                    ((1, 0), (2, 0)), ((1, 1), (0, 1)), ((1, 1), (1, 2)), ((1, 1), (2, 1))])
        self.same(boundary_length(STAIR), 8)

    def test_the_empty_region(self):
        self.same(boundary(Region()), [])
        self.same(boundary_length(Region()), 0)

    def test_cells_at_the_corner_of_the_board(self):
        self.same(boundary(Region([(120, 120)])), [((120, 120), (119, 120)), ((120, 120), (120, 119)),
                                                   ((120, 120), (120, 121)), ((120, 120), (121, 120))])
        self.same(boundary_length(Region([(-120, -120), (-120, -119)])), 6)

    def test_all_small_regions(self):
        for code in range(2 ** 9):
            region = Region(grid_cells(code, 3, 3))
            wanted = [(cell, other) for cell in region for other in neighbours(cell) if other not in region]
            self.same(boundary(region), sorted(wanted))
            self.same(boundary_length(region), len(wanted))
            for edge in boundary(region):
                self.same(is_boundary(region, edge), True)

    def test_large_regions(self):
        lonely = Region([(2 * x, 2 * y) for x in range(40) for y in range(20)])
        self.same(boundary_length(lonely), 3200)
        line = Region([(x, 0) for x in range(-120, 121)])
        self.same(boundary_length(line), 484)
        edge, walk = ((-120, 0), (-121, 0)), []
        for _ in range(484):
            walk.append(edge)
            edge = next_edge(line, edge)
        self.same(edge, ((-120, 0), (-121, 0)))
        self.same(sorted(walk), boundary(line))

    def test_the_list_is_new(self):
        self.fresh(boundary, STAIR)
        self.same(STAIR.cells, ((0, 0), (1, 0), (1, 1)))


if __name__ == "__main__":
    unittest.main()
