import unittest

from support import FAR, PlayCase, around, backward

from neverpenned.closings import closed_stretch, closing
from neverpenned.edges import begin, end
from neverpenned.errors import BadEdge, BadNumber, NotClosed, NotSame, TooMany
from neverpenned.loops import Loop

WRONG = (((0, 0), (0, 0)), ((0, 0), (1, 1)), ((121, 0), (122, 0)), ((0, -122), (0, -121)), ((FAR, 0), (FAR, 1)))


def sides_of(x, y):
    """The edges with the cell on the right hand: west, north, east, south."""
    return [((x - 1, y), (x, y)), ((x, y + 1), (x, y)), ((x + 1, y), (x, y)), ((x, y - 1), (x, y))]


WEST, NORTH, EAST, SOUTH = sides_of(0, 0)
SHORE = [((-1, y), (0, y)) for y in range(-10, 10)]
# A walk that leads around the cell (0, 0) on its right hand, from its north side to its west side.
ROUND = [NORTH, ((1, 1), (1, 0)), ((2, 0), (1, 0)), ((1, -1), (1, 0)), SOUTH, WEST]


class ClosingTest(PlayCase):
    def test_all_closings(self):
        self.same([closing(WEST, first) for first in (WEST, NORTH, EAST, SOUTH)],
                  [[NORTH, EAST, SOUTH], [], [NORTH], [NORTH, EAST]])
        self.same([closing(NORTH, first) for first in (WEST, NORTH, EAST, SOUTH)],
                  [[EAST, SOUTH], [EAST, SOUTH, WEST], [], [EAST]])
        self.same([closing(EAST, first) for first in (WEST, NORTH, EAST, SOUTH)],
                  [[SOUTH], [SOUTH, WEST], [SOUTH, WEST, NORTH], []])
        self.same([closing(SOUTH, first) for first in (WEST, NORTH, EAST, SOUTH)],
                  [[], [WEST], [WEST, NORTH], [WEST, NORTH, EAST]])

    def test_the_closing_leads_from_corner_to_corner(self):
        for x, y in ((0, 0), (-7, 30), (120, -120), (-120, 119)):
            for last in sides_of(x, y):
                for first in sides_of(x, y):
                    walk = [last, *closing(last, first), first]
                    for at in range(1, len(walk)):
                        self.assertEqual(begin(walk[at]), end(walk[at - 1]))

    def test_edges_that_are_returned_may_lie_farther(self):
        west, north, east, south = sides_of(121, -121)
        self.same(closing(west, north), [])
        self.same(closing(north, west), [east, south])
        self.same(closing(west, west), [north, east, south])
        self.same((east, south), (((122, -121), (121, -121)), ((121, -122), (121, -121))))
        west, north, east, south = sides_of(-121, 121)
        self.same(closing(south, east), [west, north])

    def test_wrong_edges(self):
        for edge in WRONG:
            self.refused(BadEdge, {"edge": edge}, closing, edge, WEST)
            self.refused(BadEdge, {"edge": edge}, closing, WEST, edge)
            self.refused(BadEdge, {"edge": edge}, closing, edge, ((9, 9), (9, 9)))
        for x, y in ((121, 0), (0, 121), (-121, 0), (0, -121)):
            near = [edge for edge in sides_of(x, y) if max(map(abs, edge[0])) <= 121]
            far = [edge for edge in sides_of(x, y) if max(map(abs, edge[0])) > 121]
            self.assertEqual([len(near), len(far)], [3, 1])
            self.same(len(closing(near[0], near[0])), 3)
            self.refused(BadEdge, {"edge": far[0]}, closing, far[0], near[0])
            self.refused(BadEdge, {"edge": far[0]}, closing, near[0], far[0])

    def test_other_right_cells(self):
        for edge in (WEST[::-1], sides_of(1, 0)[0], sides_of(0, 1)[3], sides_of(0, 5)[2], ((0, 0), (0, 1))):
            self.refused(NotSame, {}, closing, WEST, edge)
            self.refused(NotSame, {}, closing, edge, WEST)

    def test_the_list_is_new(self):
        self.fresh(closing, WEST, WEST)
        self.fresh(closing, WEST, NORTH)


class ClosedStretchTest(PlayCase):
    def test_stretches(self):
        loop = closed_stretch(ROUND, 0, 4)
        self.assertIs(type(loop), Loop)
        self.same(loop.edges, tuple([*ROUND[:5], WEST]))
        self.same(closed_stretch(ROUND, 0, 5).edges, tuple(ROUND))
        self.same(closed_stretch(ROUND, 4, 5).edges, (SOUTH, WEST, NORTH, EAST))
        self.same(closed_stretch(tuple(ROUND), 1, 3).edges, tuple([*ROUND[1:4], ((0, 0), (1, 0))]))
        self.same(closed_stretch(ROUND, 0, 4).windings(), {(0, 0): -1, (1, 0): -1})

    def test_one_edge(self):
        for at, edge in enumerate(ROUND):
            loop = closed_stretch(ROUND, at, at)
            self.same(loop.edges[0], edge)
            self.same(loop.windings(), {edge[1]: -1})
            self.same(len(loop), 4)

    def test_edges_beside_the_stretch_need_not_be_joined(self):
        far = ((50, 50), (51, 50))
        self.same(closed_stretch([far, *ROUND, far, far], 1, 5).edges, tuple([*ROUND[:5], WEST]))
        self.same(closed_stretch([far, WEST, far], 1, 1).edges, (WEST, NORTH, EAST, SOUTH))

    def test_the_length(self):
        long = [NORTH, EAST, SOUTH, WEST] * 250
        self.same(closed_stretch(long, 0, 999).edges, tuple(long))
        self.same(closed_stretch(long, 0, 999).windings(), {(0, 0): -250})
        self.same(closed_stretch(long, 0, 996).edges, tuple(long))
        self.same(len(closed_stretch(long, 999, 999)), 4)
        # With its closing, a stretch may have more edges than the list.
        shifted = [EAST, *long[:999]]
        self.same(len(closed_stretch(shifted, 1, 997)), 1000)
        self.same(len(closed_stretch([WEST, *long[:997]], 0, 997)), 1000)
        self.refused(TooMany, {"most": 1000}, closed_stretch, [*long, NORTH], 0, 0)
        self.refused(TooMany, {"most": 1000}, closed_stretch, [WRONG[0]] * 1001, -1, -1)

    def test_a_stretch_with_its_closing_of_more_than_1000_edges(self):
        turned = [NORTH, NORTH[::-1]] * 499 + [NORTH, EAST]
        self.same(len(closed_stretch(turned, 0, 999)), 1002)
        self.same(closed_stretch(turned, 0, 999).windings(), {(0, 0): -1})
        same = [NORTH, NORTH[::-1]] * 499 + [NORTH]
        self.same(len(closed_stretch(same, 0, 998)), 1002)
        self.same(closed_stretch(same + [NORTH[::-1]], 0, 998).edges[998:], (NORTH, EAST, SOUTH, WEST))

    def test_wrong_edges(self):
        for edge in WRONG:
            for at in (0, 3, 6):
                edges = [*ROUND[:at], edge, *ROUND[at:], ((0, 0), (9, 9))]
                self.refused(BadEdge, {"edge": edge}, closed_stretch, edges, 1, 1)
                self.refused(BadEdge, {"edge": edge}, closed_stretch, edges, -1, 100)

    def test_wrong_indexes(self):
        for number in (-1, 6, 7, FAR, -FAR):
            self.refused(BadNumber, {"number": number}, closed_stretch, ROUND, number, 0)
            self.refused(BadNumber, {"number": number}, closed_stretch, ROUND, 0, number)
            self.refused(BadNumber, {"number": number}, closed_stretch, ROUND, number, 99)
        for number in (-1, 0, 1):
            self.refused(BadNumber, {"number": number}, closed_stretch, [], number, 0)
        # These edges have different right cells, too.
        for first, last in ((1, 0), (5, 4), (5, 1), (3, 0)):
            self.refused(BadNumber, {"number": last}, closed_stretch, ROUND, first, last)

    def test_other_right_cells(self):
        for first, last in ((0, 1), (0, 3), (1, 5), (3, 4)):
            self.refused(NotSame, {}, closed_stretch, ROUND, first, last)
        for first, last in ((0, 1), (3, 19)):
            self.refused(NotSame, {}, closed_stretch, SHORE, first, last)
        # Before edges that are not joined.
        self.refused(NotSame, {}, closed_stretch, [WEST, ((50, 50), (51, 50)), ((0, 0), (0, -1))], 0, 2)

    def test_closings_that_lie_too_far_away(self):
        for x, y in ((121, 0), (0, 121), (-121, 0), (0, -121)):
            around_cell = sides_of(x, y)
            near = [edge for edge in around_cell if max(map(abs, edge[0])) <= 121]
            far = [edge for edge in around_cell if max(map(abs, edge[0])) > 121]
            for edge in near:
                self.refused(BadEdge, {"edge": far[0]}, closed_stretch, [edge], 0, 0)
                self.refused(BadEdge, {"edge": far[0]}, closed_stretch, [near[0], edge], 1, 1)
            # From the edge behind the far one, the closing to the edge before it is near.
            behind = around_cell[(around_cell.index(far[0]) + 1) % 4]
            before = around_cell[around_cell.index(far[0]) - 1]
            self.refused(BadEdge, {"edge": far[0]}, closed_stretch, [behind, before], 0, 1)
            self.refused(NotClosed, {"at": 1}, closed_stretch, [before, behind], 0, 1)

    def test_the_first_edge_of_a_closing_that_lies_too_far_away(self):
        west, north, east, south = sides_of(121, 121)
        self.refused(BadEdge, {"edge": north}, closed_stretch, [west], 0, 0)
        self.refused(BadEdge, {"edge": north}, closed_stretch, [south], 0, 0)
        self.refused(BadEdge, {"edge": north}, closed_stretch, [south, west], 0, 1)
        west, north, east, south = sides_of(-121, -121)
        self.refused(BadEdge, {"edge": south}, closed_stretch, [east], 0, 0)
        self.refused(BadEdge, {"edge": south}, closed_stretch, [north], 0, 0)
        self.refused(BadEdge, {"edge": south}, closed_stretch, [north, east], 0, 1)

    def test_edges_that_are_not_joined(self):
        far = ((50, 50), (51, 50))
        for at in range(1, 5):
            self.refused(NotClosed, {"at": at}, closed_stretch, ROUND[:at] + [far] + ROUND[at:], 0, 6)
            # The index counts in the new loop.
            self.refused(NotClosed, {"at": at}, closed_stretch, [far, far] + ROUND[:at] + [far] + ROUND[at:], 2, 8)
        self.refused(NotClosed, {"at": 1}, closed_stretch, [WEST, WEST], 0, 1)
        self.refused(NotClosed, {"at": 1}, closed_stretch, [WEST, EAST], 0, 1)
        self.refused(NotClosed, {"at": 1}, closed_stretch, [NORTH, WEST], 0, 1)
        self.refused(NotClosed, {"at": 2}, closed_stretch, [NORTH, EAST, WEST], 0, 2)

    def test_nothing_is_changed_or_kept(self):
        edges = list(ROUND)
        loop = closed_stretch(edges, 0, 4)
        self.assertEqual(edges, ROUND)
        edges.clear()
        self.same(loop.edges, tuple([*ROUND[:5], WEST]))

    def test_around_a_box(self):
        walk = backward(around(-2, -3, 4, 5))
        for last in range(len(walk)):
            for first in range(last + 1):
                if walk[first][1] == walk[last][1]:
                    loop = closed_stretch(walk, first, last)
                    self.assertEqual(loop.edges[:last - first + 1], tuple(walk[first:last + 1]))
                    self.assertEqual(loop, Loop(walk[first:last + 1] + closing(walk[last], walk[first])))


if __name__ == "__main__":
    unittest.main()
