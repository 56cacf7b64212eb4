import unittest

from support import FAR, PlayCase, grid_cells, scattered

from neverpenned.banks import Bank
from neverpenned.boundaries import boundary, is_boundary, next_edge
from neverpenned.cells import neighbours
from neverpenned.errors import BadEdge, BadNumber, NotBoundary
from neverpenned.regions import Region
from neverpenned.walks import ahead_edges, landing_steps, start_edge

STAIR = Region([(0, 0), (1, 0), (1, 1)])
BANK = Bank([(0, 2), (0, 4)])
FAR_EDGES = (((121, 0), (122, 0)), ((0, -121), (0, -122)), ((0, 0), (0, 0)), ((0, 0), (1, 1)), ((FAR, 0), (FAR, 1)))


def wanted_steps(ground, edge):
    """What landing_steps returns by the words of the document, for edges that do not lie at the reach."""
    reached, steps = next_edge(ground, edge), 1
    rights = [reached[1]]
    while steps < 2 or reached[1] == edge[1]:
        if reached == edge and all(right == edge[1] for right in rights):
            return None
        reached, steps = next_edge(ground, reached), steps + 1
        rights.append(reached[1])
    return steps


class StartEdgeTest(PlayCase):
    def test_start_edges(self):
        self.same([start_edge(number) for number in (0, -1, -7, -120)],
                  [((-1, 0), (0, 0)), ((-1, -1), (0, -1)), ((-1, -7), (0, -7)), ((-1, -120), (0, -120))])
        for number in range(-120, 1):
            self.same(start_edge(number), ((-1, number), (0, number)))

    def test_wrong_numbers(self):
        for number in (1, -121, 120, FAR, -FAR):
            self.refused(BadNumber, {"number": number}, start_edge, number)


class AheadEdgesTest(PlayCase):
    def test_along_the_shore(self):
        self.same(ahead_edges(Bank(), ((-1, 0), (0, 0)), 3), [((-1, y), (0, y)) for y in (1, 2, 3)])
        self.same(ahead_edges(Bank(), ((-1, -121), (0, -121)), 400), [((-1, y), (0, y)) for y in range(-120, 280)])
        self.same(ahead_edges(Bank(), ((-1, 121), (0, 121)), 2), [((-1, 122), (0, 122)), ((-1, 123), (0, 123))])
        self.same(ahead_edges(Bank(), ((-1, 0), (0, 0)), 0), [])

    def test_along_a_bank(self):
        walk = ahead_edges(BANK, ((-1, 0), (0, 0)), 10)
        self.same(walk, [((-1, 1), (0, 1)), ((0, 2), (0, 1)), ((0, 2), (1, 2)), ((0, 2), (0, 3)), ((-1, 3), (0, 3)),
                         ((0, 4), (0, 3)), ((0, 4), (1, 4)), ((0, 4), (0, 5)), ((-1, 5), (0, 5)), ((-1, 6), (0, 6))])
        for at in range(10):
            self.same(ahead_edges(BANK, walk[at], 9 - at), walk[at + 1:])

    def test_around_a_region(self):
        walk = ahead_edges(STAIR, ((0, 0), (-1, 0)), 20)
        self.same(walk[7], ((0, 0), (-1, 0)))
        self.same(walk[8:16], walk[:8])
        self.same(sorted(walk[:8]), boundary(STAIR))

    def test_each_is_the_next_edge_of_the_one_before(self):
        numbers = scattered(900, 40, seed=33)
        for at in range(0, 900, 20):
            bank = Bank([(n // 10, n % 10) for n in numbers[at:at + 20]])
            edge = ((-1, -3), (0, -3))
            walk = [edge, *ahead_edges(bank, edge, 90)]
            for before, after in zip(walk, walk[1:]):
                self.same(next_edge(bank, before), after)
                self.same(is_boundary(bank, after), True)
            # The walk passes everything that hangs on the shore, and then goes straight north.
            self.assertEqual(walk[-1][0][0], -1)

    def test_a_walk_of_400_edges_along_a_large_bank(self):
        comb = Bank([(x, y) for x in range(38) for y in range(-120, 121) if x == 0 or y % 2 == 0])
        walk = ahead_edges(comb, ((-1, -121), (0, -121)), 400)
        self.same((walk[0], walk[37], walk[38]), (((0, -120), (0, -121)), ((37, -120), (37, -121)),
                                                  ((37, -120), (38, -120))))
        self.same(len(set(walk)), 400)
        for before, after in zip(walk, walk[1:]):
            self.same(next_edge(comb, before), after)
        corner = Region([(120, 120), (120, 119)])
        self.same(ahead_edges(corner, ((120, 120), (121, 120)), 2),
                  [((120, 120), (120, 121)), ((120, 120), (119, 120))])

    def test_the_order_of_the_checks(self):
        for edge in FAR_EDGES:
            self.refused(BadEdge, {"edge": edge}, ahead_edges, BANK, edge, 401)
            self.refused(BadEdge, {"edge": edge}, ahead_edges, STAIR, edge, 1)
        for many in (-1, 401, FAR, -FAR):
            self.refused(BadNumber, {"number": many}, ahead_edges, BANK, ((-1, 0), (0, 0)), many)
            self.refused(BadNumber, {"number": many}, ahead_edges, BANK, ((0, 0), (-1, 0)), many)
        for edge in (((0, 0), (-1, 0)), ((-1, 2), (0, 2)), ((0, 2), (-1, 2)), ((7, 7), (8, 7)), ((121, 0), (121, 1))):
            for many in (0, 1, 400):
                self.refused(NotBoundary, {"edge": edge}, ahead_edges, BANK, edge, many)
        self.refused(NotBoundary, {"edge": ((0, 0), (1, 0))}, ahead_edges, STAIR, ((0, 0), (1, 0)), 0)

    def test_the_list_is_new(self):
        self.fresh(ahead_edges, BANK, ((-1, 0), (0, 0)), 5)


class LandingStepsTest(PlayCase):
    def test_along_the_shore(self):
        for y in (-121, 0, 121):
            self.same(landing_steps(Bank(), ((-1, y), (0, y))), 2)

    def test_along_a_bank(self):
        walk = [((-1, 0), (0, 0)), *ahead_edges(BANK, ((-1, 0), (0, 0)), 9)]
        self.same([landing_steps(BANK, edge) for edge in walk], [2, 2, 2, 2, 3, 2, 2, 2, 2, 2])

    def test_a_dead_end(self):
        # The cell (0, 1) has the bank on three sides.
        bay = Bank([(0, 0), (0, 2), (1, 0), (1, 2)])
        walk = ahead_edges(bay, ((-1, -1), (0, -1)), 8)
        self.same([edge[1] for edge in walk], [(0, -1), (1, -1), (2, 0), (1, 1), (0, 1), (0, 1), (0, 1), (1, 1)])
        self.same([landing_steps(bay, edge) for edge in walk[:7]], [2, 2, 2, 2, 3, 2, 2])
        # It has right cells (2, 0), (1, 1), (0, 1) three times, (1, 1), (2, 2): the first one is left at once.
        self.same(landing_steps(bay, ((1, 0), (1, 1))), 2)

    def test_a_hole_of_one_cell(self):
        ring = [(x, y) for x in range(2, 5) for y in range(2, 5) if (x, y) != (3, 3)]
        for ground in (Region(ring), Bank(ring), Bank([(0, y) for y in range(5)] + ring)):
            for left in neighbours((3, 3)):
                self.same(landing_steps(ground, (left, (3, 3))), None)
        self.same(landing_steps(Region(ring), ((2, 2), (1, 2))), 2)
        # Along the shore, too: the western side of the hole is that of the cell (-1, 1).
        half = [(0, 0), (1, 0), (1, 1), (1, 2), (0, 2)]
        for left in neighbours((0, 1)):
            self.same(landing_steps(Bank(half), (left, (0, 1))), None)
        # Without the cell (1, 2) the walk leaves it over the corner.
        self.same([landing_steps(Bank([cell for cell in half if cell != (1, 2)]), (left, (0, 1)))
                   for left in ((1, 1), (0, 0), (-1, 1), (0, 2))], [4, 3, 2, 2])
        # At the corner of the board.
        hole = Region([(120, 119), (119, 120), (119, 119), (118, 120), (119, 118)])
        self.same(landing_steps(hole, ((120, 119), (120, 120))), 2)

    def test_a_hole_of_two_cells(self):
        ring = Region([(x, y) for x in range(4) for y in range(3) if (x, y) not in ((1, 1), (2, 1))])
        around = [((0, 1), (1, 1)), ((1, 2), (1, 1)), ((2, 2), (2, 1)), ((3, 1), (2, 1)), ((2, 0), (2, 1)),
                  ((1, 0), (1, 1))]
        self.same(ahead_edges(ring, around[0], 5), around[1:])
        self.same([landing_steps(ring, edge) for edge in around], [2, 2, 3, 2, 2, 3])

    def test_a_region_of_one_cell(self):
        for left in ((3, 4), (120, 120), (-120, -120)):
            for right in neighbours(left):
                self.same(landing_steps(Region([left]), (left, right)), 2)

    def test_the_words_of_the_document(self):
        found = {None: 0, 2: 0, 3: 0, 4: 0}
        for code in range(2 ** 9):
            cells = grid_cells(code, 3, 3)
            bank, region = Bank([(x, y + 4) for x, y in cells]), Region(cells)
            for edge in boundary(region):
                steps = landing_steps(region, edge)
                self.same(steps, wanted_steps(region, edge))
                found[steps] += 1
            for edge in [((-1, y), (0, y)) for y in range(2, 9)]:
                if is_boundary(bank, edge):
                    self.same(landing_steps(bank, edge), wanted_steps(bank, edge))
        self.assertTrue(all(found[steps] > 3 for steps in found), found)

    def test_wrong_edges(self):
        for edge in FAR_EDGES:
            self.refused(BadEdge, {"edge": edge}, landing_steps, BANK, edge)
            self.refused(BadEdge, {"edge": edge}, landing_steps, STAIR, edge)
        for edge in (((0, 0), (-1, 0)), ((-1, 2), (0, 2)), ((0, 2), (-1, 2)), ((7, 7), (8, 7))):
            self.refused(NotBoundary, {"edge": edge}, landing_steps, BANK, edge)
        self.refused(NotBoundary, {"edge": ((0, 0), (1, 0))}, landing_steps, STAIR, ((0, 0), (1, 0)))


if __name__ == "__main__":
    unittest.main()
