import unittest

from games import games, plain_image, plain_own
from support import FAR, PlayCase, scattered, wanted_growth

from neverpenned.banks import Bank
from neverpenned.errors import BadCell, BadNumber, NotAllowed, TooMany
from neverpenned.runners import BankRunner
from neverpenned.walks import ahead_edges
from neverpenned.watches import growth_gap, struck_ahead, trail_stands

EXAMPLE = [(0, 2), (1, 1), (0, 4)]
# Four turns: the cell (0, 6) joins the bank in turn 4.
LONGER = [*EXAMPLE, (0, 6)]


class Stray(BankRunner):
    """A bank runner that tells another bank than its own, of which the facts do not hold."""

    def __init__(self, extra, edges=(), struck=()):
        BankRunner.__init__(self)
        self.told = (Bank(extra), edges, struck)

    def bank_at(self, turn):
        return self.told[0]

    def trail(self):
        return list(self.told[1])

    def struck_by(self, turn):
        return list(self.told[2])

    def edges_ahead(self, many):
        return ahead_edges(self.told[0], ((-1, 0), (0, 0)), many)


class StruckAheadTest(PlayCase):
    def test_nothing_is_struck_ahead(self):
        for runner in games():
            for many in (0, 1, 50, 400):
                self.same(struck_ahead(runner, many), [])
        for code in range(8):
            runner = BankRunner(code)
            for cell in EXAMPLE:
                self.same(struck_ahead(runner, 400), [])
                runner.strike(plain_image(code, cell))
            self.same(struck_ahead(runner, 400), [])

    def test_a_walk_that_runs_into_struck_cells(self):
        stray = Stray([(0, 3)], struck=[(1, 3), (0, 5), (0, 1), (-3, 3), (0, 3), (7, 7)])
        self.same(struck_ahead(stray, 9), [(0, 1), (1, 3), (0, 5)])
        self.same([len(struck_ahead(stray, many)) for many in (0, 1, 3, 4, 6, 7)], [0, 1, 1, 2, 2, 3])

    def test_wrong_numbers(self):
        for many in (-1, 401, FAR, -FAR):
            self.refused(BadNumber, {"number": many}, struck_ahead, BankRunner.played(EXAMPLE), many)

    def test_the_list_is_new(self):
        self.fresh(struck_ahead, BankRunner.played(EXAMPLE), 9)


class TrailStandsTest(PlayCase):
    def test_trails(self):
        for runner in games():
            self.same(trail_stands(runner), True)
        for code in range(8):
            runner = BankRunner(code)
            self.same(trail_stands(runner), True)
            for cell in EXAMPLE:
                runner.strike(plain_image(code, cell))
                self.same(trail_stands(runner), True)

    def test_trails_that_do_not_stand(self):
        trail = BankRunner.played(EXAMPLE).trail()
        self.same(trail_stands(Stray([(0, 2), (0, 4)], trail)), True)
        # The bank has a right cell, lacks a left cell, or leads the walk elsewhere.
        for extra in ([(0, 2)], [(0, 4)], [], *[[(0, 2), (0, 4), cell] for cell in ((0, 1), (1, 2), (1, 4), (0, 3))]):
            self.same(trail_stands(Stray(extra, trail)), False)
        # Both edges are boundary edges, but without the cell (1, 2) the walk turns left between them.
        corner = [((1, 3), (0, 3)), ((0, 2), (0, 3))]
        self.same([trail_stands(Stray([(0, 2), (1, 3), *more], corner)) for more in ([], [(1, 2)])], [False, True])
        self.same(trail_stands(Stray([(0, 2), (0, 4), (1, 5), (7, 7)], trail)), True)
        # All of them are boundary edges, but one is left out.
        for at in range(1, 7):
            self.same(trail_stands(Stray([(0, 2), (0, 4)], trail[:at] + trail[at + 1:])), False)
        self.same(trail_stands(Stray([], [((-1, 0), (0, 0)), ((-1, 1), (0, 1))])), True)
        self.same(trail_stands(Stray([], [((-1, 1), (0, 1)), ((-1, 0), (0, 0))])), False)
        self.same(trail_stands(Stray([(0, 0)], [((-1, 0), (0, 0))])), False)


class GrowthGapTest(PlayCase):
    def test_the_example(self):
        runner = BankRunner.played(EXAMPLE)
        self.same(growth_gap(runner, 1, 3, []), (0, 1))
        self.same(growth_gap(runner, 2, 3, []), (0, 1))
        self.same(growth_gap(runner, 3, 3, []), (0, 0))
        self.same(growth_gap(runner, 1, 2, []), (0, 0))
        self.same(growth_gap(runner, 1, 3, [(0, 3)]), (-2, 1))
        self.same(growth_gap(runner, 1, 3, [(0, 3), (0, 2), (0, 3), (-4, 1), (0, 4)]), (-2, 1))
        self.same(growth_gap(runner, 1, 1, [(0, 4)]), (2, 0))
        self.same(growth_gap(runner, 1, 1, ((1, 2), (2, 2))), (4, 0))
        self.same(growth_gap(runner, 2, 2, [(7, 7)]), (4, 0))

    def test_strikes_that_do_not_count(self):
        # Struck on the shore, in a bank of before, or outside of the bank.
        runner = BankRunner.played([(0, 5), (-1, 0), (9, 9), (0, 7), (0, 6)])
        self.same([runner.bank_at(turn).extra for turn in range(1, 6)],
                  [((0, 5),), ((0, 5),), ((0, 5),), ((0, 5), (0, 6), (0, 7)), ((0, 5), (0, 6), (0, 7))])
        self.same([growth_gap(runner, early, 5, [])[1] for early in range(1, 6)], [2, 2, 2, 0, 0])
        self.same([growth_gap(runner, 1, late, [])[1] for late in range(1, 6)], [0, 0, 0, 1, 2])

    def test_the_words_of_the_document(self):
        for at, runner in enumerate(games()):
            numbers = scattered(1200, 2 ** 20, seed=at + 70)
            for spot in range(0, 1200, 40):
                early = numbers[spot] % 36 + 1
                late = early + numbers[spot + 1] % (37 - early)
                barred, bank = runner.barred_at(early), runner.bank_at(late)
                near = [*bank.extra, *[right for left, right in runner.trail()]]
                cells = []
                for number in numbers[spot + 2:spot + 2 + spot // 40 * 2 % 38]:
                    x, y = near[number % len(near)]
                    cells.append((x + number // 1000 % 3 - 1, y + number // 3000 % 3 - 1) if spot % 80 else (x, y))
                cells = [cell for cell in cells if cell not in barred]
                extra = {*bank.extra, *[cell for cell in cells if cell[0] >= 0]}
                own = [plain_own(runner.code, cell) for cell in runner.struck[early:late]]
                hits = [cell for cell in own if cell in bank and cell not in runner.bank_at(early)]
                wanted = (wanted_growth(extra) - wanted_growth(bank.extra), len(hits))
                self.same(growth_gap(runner, early, late, cells), wanted)
                # The fact of the document.
                self.assertGreaterEqual(wanted[0], -2 * wanted[1])

    def test_the_right_cells_of_the_later_trail(self):
        for runner in games():
            for early, late in ((1, 36), (5, 30), (20, 36), (35, 36)):
                barred = runner.barred_at(early)
                cells = [right for left, right in runner.trail() if right not in barred]
                difference, strikes = growth_gap(runner, early, late, cells)
                self.assertGreaterEqual(difference, -2 * strikes)

    def test_the_order_of_the_checks(self):
        runner = BankRunner.played(LONGER)
        wrong = [(500, 0)] * 801
        for turn in (0, 5, -1, FAR):
            self.refused(BadNumber, {"number": turn}, growth_gap, runner, turn, 9, wrong)
            self.refused(BadNumber, {"number": turn}, growth_gap, runner, 3, turn, wrong)
        self.refused(TooMany, {"most": 800}, growth_gap, runner, 3, 2, wrong)
        for cell in ((121, 0), (0, 121), (-121, 0), (0, -121), (FAR, 0), (0, -FAR)):
            self.refused(BadCell, {"cell": cell}, growth_gap, runner, 3, 2, [(0, 0), (40, 0), cell, (500, 500)])
        self.refused(BadNumber, {"number": 2}, growth_gap, runner, 3, 2, [(0, 0)])
        self.refused(BadNumber, {"number": 1}, growth_gap, runner, 4, 1, [])
        for call in (1, 0):
            self.refused(BadNumber, {"number": call}, growth_gap, BankRunner(), call, 1, [])

    def test_cells_that_are_not_allowed(self):
        runner = BankRunner.played(LONGER)
        for cell in ((0, 0), (0, -120), (0, 1), (40, 0), (120, 7)):
            self.refused(NotAllowed, {"cell": cell}, growth_gap, runner, 2, 4, [(5, 5), cell, (0, -1), (41, 0)])
        # Barred later, but not yet in the turn `early`; the shore is never barred.
        self.same(growth_gap(runner, 2, 4, [(0, 3), (1, 2)]), (0, 2))
        self.refused(NotAllowed, {"cell": (1, 2)}, growth_gap, runner, 3, 4, [(0, 5), (1, 2), (0, 3)])
        self.refused(NotAllowed, {"cell": (0, 3)}, growth_gap, runner, 3, 3, [(0, 3)])
        self.same(growth_gap(runner, 2, 4, [(-1, 0), (-120, 120), (39, 0)]), (4, 2))

    def test_the_length(self):
        runner = BankRunner.played(EXAMPLE)
        cells = [(x, y) for x in range(20) for y in range(10, 50)]
        self.same(growth_gap(runner, 1, 3, cells), (40, 1))
        self.same(growth_gap(runner, 1, 3, [(0, 3)] * 800), (-2, 1))
        self.refused(TooMany, {"most": 800}, growth_gap, runner, 1, 3, [*cells, (0, 3)])

    def test_nothing_is_changed(self):
        runner, cells = BankRunner.played(EXAMPLE), [(5, 5), (0, 3), (5, 5)]
        self.same(growth_gap(runner, 1, 3, cells), (2, 1))
        self.same((cells, runner.bank_at(3).extra), ([(5, 5), (0, 3), (5, 5)], ((0, 2), (0, 4))))


if __name__ == "__main__":
    unittest.main()
