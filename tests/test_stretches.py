import unittest

from games import games, plain_image, plain_walk
from support import FAR, PlayCase, wanted_windings

from neverpenned.banks import Bank
from neverpenned.closings import closing
from neverpenned.errors import BadCell, BadNumber
from neverpenned.runners import BankRunner
from neverpenned.stretches import enclosed, visits, walk_part
from neverpenned.walks import ahead_edges

EXAMPLE = [(0, 2), (1, 1), (0, 4)]


class Wanderer(BankRunner):
    """A bank runner that has come along a bank of any kind, also along bays that a least best bank does not have."""

    def __init__(self, extra, steps):
        BankRunner.__init__(self)
        self.bank = Bank(extra)
        self.told = [((-1, 0), (0, 0)), *ahead_edges(self.bank, ((-1, 0), (0, 0)), steps)]

    @property
    def marks(self):
        return (0, len(self.told) - 1)

    def trail(self):
        return list(self.told)

    def bank_at(self, turn):
        return self.bank

    def edges_ahead(self, many):
        return ahead_edges(self.bank, self.told[-1], many)


def wanted_enclosed(walk, numbers):
    """The enclosed cells and their windings, for the edges of a walk from -120 on from the first to the last number."""
    edges = [walk[number + 120] for number in range(numbers[0], numbers[-1] + 1)]
    found = wanted_windings([*edges, *closing(edges[-1], edges[0])])
    return sorted(found), found


# The walk goes into a bay of four cells through the cell (4, 3), and out again through it.
INNER = [(1, 3), (1, 4), (2, 3), (3, 3)]
BAY = [(x, y) for x in range(5) for y in range(2, 6) if (x, y) not in [*INNER, (4, 3)]]


class WalkPartTest(PlayCase):
    def test_the_example(self):
        runner = BankRunner.played(EXAMPLE)
        self.same(walk_part(runner, -2, 9), [((-1, -2), (0, -2)), ((-1, -1), (0, -1)), *runner.trail(),
                                             ((0, 4), (0, 5)), ((-1, 5), (0, 5))])
        self.same(walk_part(runner, 4, 4), [((0, 2), (0, 3))])
        self.same(walk_part(runner, -120, -119), [((-1, -120), (0, -120)), ((-1, -119), (0, -119))])
        self.same(len(walk_part(runner, -120, 407)), 528)
        self.same(walk_part(runner, 8, 10), runner.edges_ahead(3))
        self.same(walk_part(runner, 407, 407), runner.edges_ahead(400)[-1:])

    def test_the_words_of_the_document(self):
        for runner in [*games(), BankRunner(5)]:
            most = runner.marks[-1] + 400
            walk = plain_walk(runner, -120, most)
            for first, last in ((-120, most), (0, most), (-120, -120), (most, most), (-7, 30), (0, runner.marks[-1]),
                                (runner.marks[-1], runner.marks[-1] + 3), (runner.marks[-1] + 1, most)):
                self.same(walk_part(runner, first, last), walk[first + 120:last + 121])

    def test_wrong_numbers(self):
        runner = BankRunner.played(EXAMPLE)
        for number in (-121, 408, FAR, -FAR):
            self.refused(BadNumber, {"number": number}, walk_part, runner, number, 999)
            self.refused(BadNumber, {"number": number}, walk_part, runner, 5, number)
        for first, last in ((5, 4), (407, -120), (0, -1), (-119, -120)):
            self.refused(BadNumber, {"number": last}, walk_part, runner, first, last)
        self.refused(BadNumber, {"number": 401}, walk_part, BankRunner(), 0, 401)
        self.same(len(walk_part(BankRunner(), 0, 400)), 401)

    def test_the_list_is_new(self):
        self.fresh(walk_part, BankRunner.played(EXAMPLE), -3, 20)


class VisitsTest(PlayCase):
    def test_the_example(self):
        runner = BankRunner.played(EXAMPLE)
        self.same(visits(runner, (0, 3), 407), [4, 5, 6])
        self.same([visits(runner, (0, 3), last) for last in (3, 4, 5)], [[], [4], [4, 5]])
        self.same(visits(runner, (0, 1), 407), [1, 2])
        self.same(visits(runner, (0, 0), 0), [0])
        self.same([visits(runner, cell, 407) for cell in ((0, -120), (0, -1), (1, 2), (0, 2), (-1, 0), (7, 7))],
                  [[-120], [-1], [3], [], [], []])
        self.same([visits(runner, (0, 120), last) for last in (123, 124, 407)], [[], [124], [124]])

    def test_the_own_frame(self):
        for code in range(8):
            runner = BankRunner.played([plain_image(code, cell) for cell in EXAMPLE], code)
            self.same((visits(runner, (0, 3), 50), enclosed(runner, (0, 3), 50)), ([4, 5, 6], [(0, 3)]))
            self.same(walk_part(runner, 3, 4), [((0, 2), (1, 2)), ((0, 2), (0, 3))])

    def test_the_words_of_the_document(self):
        for runner in games():
            most = runner.marks[-1] + 400
            walk = plain_walk(runner, -120, most)
            for cell in sorted({right for left, right in walk if abs(right[1]) <= 120})[::3]:
                numbers = [at - 120 for at, edge in enumerate(walk) if edge[1] == cell]
                self.same(visits(runner, cell, most), numbers)
                for last in (0, runner.marks[-1], runner.marks[-1] + 5):
                    self.same(visits(runner, cell, last), [number for number in numbers if number <= last])

    def test_wrong_arguments(self):
        runner = BankRunner.played(EXAMPLE)
        for call in (visits, enclosed):
            for cell in ((121, 0), (0, 121), (-121, 0), (0, -121), (FAR, 0), (0, -FAR)):
                self.refused(BadCell, {"cell": cell}, call, runner, cell, 999)
            for last in (-1, 408, FAR, -FAR):
                self.refused(BadNumber, {"number": last}, call, runner, (0, 0), last)
            self.refused(BadNumber, {"number": 401}, call, BankRunner(), (0, 0), 401)
            call(BankRunner(), (0, 0), 400)

    def test_the_lists_are_new(self):
        self.fresh(visits, BankRunner.played(EXAMPLE), (0, 3), 20)
        self.fresh(enclosed, BankRunner.played(EXAMPLE), (0, 3), 20)


class EnclosedTest(PlayCase):
    def test_the_example(self):
        runner = BankRunner.played(EXAMPLE)
        for last in (3, 4, 5, 6, 407):
            self.same(enclosed(runner, (0, 3), last), [(0, 3)] if last >= 5 else [])
        self.same([enclosed(runner, cell, 407) for cell in ((0, 1), (0, 0), (1, 2), (7, 7))], [[(0, 1)], [], [], []])

    def test_a_bay(self):
        for steps in (0, 3, 8, 12, 30):
            wanderer = Wanderer(BAY, steps)
            numbers = visits(wanderer, (4, 3), 100)
            self.same(numbers, [8, 18])
            self.same(enclosed(wanderer, (4, 3), 100), [*INNER, (4, 3)])
            self.same(enclosed(wanderer, (4, 3), 18), [*INNER, (4, 3)])
            self.same(enclosed(wanderer, (4, 3), 17), [])
            self.same(enclosed(wanderer, (2, 3), 100), [(1, 3), (1, 4), (2, 3)])
            self.same(enclosed(wanderer, (1, 4), 100), [(1, 4)])

    def test_a_cell_that_is_left_over_a_corner(self):
        # The cell (3, 3) has the bank on three sides; between two of them the walk goes around the cell (2, 4).
        bay = [(x, y) for x in range(4) for y in range(2, 6) if (x, y) not in ((3, 3), (2, 4))]
        wanderer = Wanderer(bay, 3)
        self.same(visits(wanderer, (3, 3), 100), [7, 8, 13])
        self.same(visits(wanderer, (2, 4), 100), [9, 10, 11, 12])
        self.same([enclosed(wanderer, (3, 3), last) for last in (7, 8, 12, 13, 100)],
                  [[], [(3, 3)], [(3, 3)], [(2, 4), (3, 3)], [(2, 4), (3, 3)]])
        self.same(enclosed(wanderer, (2, 4), 100), [(2, 4)])

    def test_bays_by_the_words_of_the_document(self):
        spiral = [*[(x, y) for x in range(7) for y in (2, 8)], *[(6, y) for y in range(3, 8)], (0, 4), (1, 4), (2, 4),
                  (4, 4), (4, 5), (4, 6), (3, 6), (2, 6), (5, 6)]
        for extra in (BAY, spiral, [(x, y + 5) for x, y in BAY], EXAMPLE, [cell for cell in spiral if cell != (4, 6)]):
            wanderer = Wanderer(extra, 12)
            walk = plain_walk(wanderer, -120, 300)
            for cell in sorted({right for left, right in walk if abs(right[1]) < 30}):
                numbers = [at - 120 for at, edge in enumerate(walk) if edge[1] == cell]
                if len(numbers) > 1:
                    self.same(enclosed(wanderer, cell, 300), wanted_enclosed(walk, numbers)[0])

    def test_the_facts(self):
        several = 0
        for runner in games():
            most = runner.marks[-1] + 400
            walk = plain_walk(runner, -120, most)
            rights = [right for left, right in walk]
            for cell in sorted({right for right in rights if rights.count(right) > 1}):
                numbers = [at - 120 for at, right in enumerate(rights) if right == cell]
                cells, windings = wanted_enclosed(walk, numbers)
                self.same(enclosed(runner, cell, most), cells)
                self.assertEqual(set(windings.values()), {-1})
                for number, (left, right) in enumerate(walk, start=-120):
                    self.assertEqual(windings.get(right, 0), -1 if numbers[0] <= number <= numbers[-1] else 0)
                    self.assertEqual(windings.get(left, 0), 0)
                several += 1
        self.assertGreater(several, 100)

    def test_stretches_at_the_reach(self):
        wanderer = Wanderer([(x, y + 115) for x, y in BAY], 3)
        self.same(enclosed(wanderer, (4, 118), 300), [(x, y + 115) for x, y in [*INNER, (4, 3)]])
        # A bay that is open to the north: the closing walks along an edge one cell beyond the reach.
        wanderer = Wanderer([(0, 120), (0, 119), (0, 118), (1, 118), (2, 118), (2, 119), (2, 120)], 3)
        self.same(visits(wanderer, (1, 120), 300), [125, 129])
        self.same(enclosed(wanderer, (1, 120), 300), [(1, 119), (1, 120)])


if __name__ == "__main__":
    unittest.main()
