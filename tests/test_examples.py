"""The examples of the document, each by itself."""

import unittest

from support import PlayCase

from neverpenned.basins import Basin
from neverpenned.bestbanks import best_bank
from neverpenned.boxes import Box
from neverpenned.breakers import PenBreaker
from neverpenned.closings import closing
from neverpenned.components import components, holes
from neverpenned.contours import contours
from neverpenned.errors import NotHeld, Occupied
from neverpenned.games import Game
from neverpenned.patterns import lacking
from neverpenned.ranks import rank
from neverpenned.records import record_text
from neverpenned.regions import Region
from neverpenned.reports import report
from neverpenned.rotation import euler
from neverpenned.runners import BankRunner
from neverpenned.streams import stream_count
from neverpenned.symmetries import Symmetry
from neverpenned.turnwords import word_of
from neverpenned.views import view


class ExamplesTest(PlayCase):
    def test_symmetries(self):
        quarter = Symmetry(1)
        mirror = Symmetry(4)
        self.same([quarter((2, 1)), (mirror * quarter)((2, 1)), (mirror * quarter).name, (~quarter).code],
                  [(-1, 2), (1, 2), "er", 3])

    def test_contours(self):
        loops = contours(Region([(0, 0), (1, 0), (1, 1)]))
        self.same([len(loops), loops[0].edges[0], word_of(loops[0]), loops[0].area],
                  [1, ((0, 0), (-1, 0)), "lslsllrl", 3])

    def test_rotation(self):
        diamond = Region([(1, 0), (0, 1), (-1, 0), (0, -1)])
        self.same([len(components(diamond)), len(holes(diamond)), euler(diamond)], [4, 0, 4])

    def test_closings(self):
        self.same(closing(((0, 1), (0, 0)), ((-1, 0), (0, 0))), [((1, 0), (0, 0)), ((0, -1), (0, 0))])

    def test_banks(self):
        self.same([stream_count(Basin([(0, 0), (1, 0)])), best_bank([(0, 0), (1, 0)]).extra, best_bank([(1, 0)]).extra],
                  [5, ((0, 0), (1, 0)), ()])

    def test_runners(self):
        runner = BankRunner.played([(0, 2), (1, 1), (0, 4)])
        self.same([runner.visited, runner.marks, runner.bank_at(3).extra],
                  [((0, 0), (0, 1), (0, 3), (1, 4)), (0, 2, 4, 7), ((0, 2), (0, 4))])
        self.refused(Occupied, {"cell": (0, 1)}, BankRunner.played, [(0, 2), (0, 1)])

    def test_patterns(self):
        self.same([lacking(3, [-1, 0]), lacking(4, [1]), lacking(6, [])], [[1], [0], []])
        self.refused(NotHeld, {"level": 3}, lacking, 3, [])

    def test_breakers(self):
        breaker = PenBreaker(10, prepared=True)
        breaker.strike()
        breaker.move((0, 1))
        self.same([breaker.strike(), breaker.reasons, breaker.phase], [(-10, -1), ("wall", "wall"), "move"])

    def test_ranks(self):
        row = Region([(0, 0), (1, 0), (2, 0)])
        self.same([rank(row, [], 1, (0, 0)), rank(row, [], 1, (1, 0)), rank(row, [(2, 0)], 1, (1, 0)),
                   rank(row, [(0, 0), (2, 0)], 1, (1, 0))], [1, 2, 2, None])

    def test_records(self):
        game = Game(1, board=Region([(0, 0), (1, 0), (2, 0)]))
        game.strike((1, 0))
        self.same([game.phase, record_text(game).splitlines()],
                  ["penned", ["power 1", "start 0,0", "board 0,0 1,0 2,0", "out", "before", "strike 1,0"]])

    def test_views(self):
        self.same(view(BankRunner.played([(0, 2), (1, 1), (0, 4)]), Box(-1, 0, 2, 5)).splitlines(),
                  ["#...", "#XR.", "#o..", "#X..", "#ox.", "#o.."])

    def test_reports(self):
        self.same(report(BankRunner.played([(0, 2), (1, 1), (0, 4)])).splitlines()[1],
                  "   1 0,2       0,1            2      1      0      2")


if __name__ == "__main__":
    unittest.main()
