import unittest

from games import STYLES, game, games, next_strike, plain_image, plain_own, plain_walk
from support import FAR, PlayCase, scattered

from neverpenned.banks import Bank
from neverpenned.bestbanks import best_bank
from neverpenned.boundaries import is_boundary, next_edge
from neverpenned.certificates import BankCertificate, judge_bank
from neverpenned.errors import AlreadyStruck, BadCell, BadNumber, NothingToUndo, Occupied, TooMany
from neverpenned.runners import BankRunner
from neverpenned.symmetries import Symmetry

EXAMPLE = [(0, 2), (1, 1), (0, 4)]
SHORE = [(-1 - n % 6, n // 6) for n in range(40)]
SOUTH = [(0, y) for y in range(-120, 1)]


def state(runner):
    """All that a bank runner tells about itself."""
    turns = range(runner.turn + 1)
    return (runner.code, runner.cell, runner.struck, runner.visited, runner.turn, runner.marks,
            [runner.bank_at(turn).extra for turn in turns], [runner.barred_at(turn + 1) for turn in turns],
            [runner.struck_by(turn) for turn in turns], runner.trail(), runner.edges_ahead(40))


class NewRunnerTest(PlayCase):
    def test_before_the_first_turn(self):
        for code in range(8):
            for runner in (BankRunner(code), BankRunner(code=code), BankRunner.played([], code)):
                self.same((runner.code, runner.cell, runner.struck, runner.visited, runner.turn, runner.marks),
                          (code, (0, 0), (), ((0, 0),), 0, (0,)))
                self.same((runner.bank_at(0).extra, runner.barred_at(1), runner.struck_by(0)), ((), SOUTH, []))
                self.same(runner.trail(), [((-1, 0), (0, 0))])
                self.same(runner.edges_ahead(3), [((-1, y), (0, y)) for y in (1, 2, 3)])
        self.same((BankRunner().code, BankRunner.MOST, BankRunner().MOST), (0, 36, 36))

    def test_wrong_codes(self):
        for code in (-1, 8, FAR, -FAR):
            self.refused(BadNumber, {"number": code}, BankRunner, code)
            self.refused(BadNumber, {"number": code}, BankRunner.played, EXAMPLE, code)

    def test_frames(self):
        for code in range(8):
            runner = BankRunner(code)
            for cell in ((2, 1), (0, 0), (-120, 7), (120, -120)):
                self.same(runner.to_board(cell), plain_image(code, cell))
                self.same(runner.to_own(plain_image(code, cell)), cell)
                self.same(runner.to_own(cell), plain_own(code, cell))
            for cell in ((121, 0), (0, -121), (FAR, 0), (0, -FAR)):
                self.refused(BadCell, {"cell": cell}, runner.to_own, cell)
                self.refused(BadCell, {"cell": cell}, runner.to_board, cell)


class TurnsTest(PlayCase):
    def test_the_example_of_the_document(self):
        runner = BankRunner()
        self.same([runner.strike(cell) for cell in EXAMPLE], [(0, 1), (0, 3), (1, 4)])
        self.same((runner.cell, runner.struck), ((1, 4), tuple(EXAMPLE)))
        self.same(runner.visited, ((0, 0), (0, 1), (0, 3), (1, 4)))
        self.same((runner.turn, runner.marks), (3, (0, 2, 4, 7)))
        self.same([runner.bank_at(turn).extra for turn in range(4)], [(), ((0, 2),), ((0, 2),), ((0, 2), (0, 4))])
        self.same(runner.trail(), [((-1, 0), (0, 0)), ((-1, 1), (0, 1)), ((0, 2), (0, 1)), ((0, 2), (1, 2)),
                                   ((0, 2), (0, 3)), ((-1, 3), (0, 3)), ((0, 4), (0, 3)), ((0, 4), (1, 4))])
        self.same(runner.edges_ahead(3), [((0, 4), (0, 5)), ((-1, 5), (0, 5)), ((-1, 6), (0, 6))])
        self.same(runner.barred_at(1), SOUTH)
        self.same(runner.barred_at(2), [*SOUTH, (0, 1)])
        self.same(runner.barred_at(3), [*SOUTH, (0, 1), (0, 3), (1, 2)])
        self.same(runner.barred_at(4), [*SOUTH, (0, 1), (0, 3), (1, 2), (1, 4)])
        self.same([runner.struck_by(turn) for turn in range(4)], [[], EXAMPLE[:1], EXAMPLE[:2], EXAMPLE])

    def test_no_strike_matters(self):
        for cells in (SHORE[:36], [(x, 0) for x in range(40, 76)], [(0, y) for y in range(-36, 0)],
                      [(40 + y, y) for y in range(36)]):
            runner = BankRunner.played(cells)
            self.same(runner.visited, tuple((0, 2 * turn) for turn in range(37)))
            self.same(runner.marks, tuple(range(0, 73, 2)))
            self.same(runner.bank_at(36).extra, ())

    def test_the_band(self):
        block = [(x, y) for x in (38, 39) for y in (50, 51)]
        self.same(BankRunner.played(block).bank_at(4).extra, tuple(block))
        self.same(BankRunner.played([(x + 1, y) for x, y in block]).bank_at(4).extra, ())

    def test_strikes_in_the_trail_are_barred(self):
        runner = BankRunner.played(SHORE[:3])
        for cell in ((0, 5), (0, 3), (0, 0), (0, -7)):
            runner.strike(cell)
        self.same((runner.visited[-1], runner.bank_at(7).extra), ((0, 14), ()))
        self.same((runner.strike((0, 15)), runner.bank_at(8).extra), ((1, 15), ((0, 15),)))

    def test_a_strike_right_ahead(self):
        runner = BankRunner()
        self.same([runner.strike((0, 1)), runner.marks, runner.bank_at(1).extra], [(1, 1), (0, 2), ((0, 1),)])
        # The cell (1, 2) is worth the way to it; below it the runner stands in a corner, which it leaves at once.
        self.same([runner.strike((1, 2)), runner.marks, runner.bank_at(2).extra],
                  [(2, 2), (0, 2, 4), ((0, 1), (0, 2), (1, 2))])
        self.same(runner.trail()[2:], [((0, 1), (1, 1)), ((1, 2), (1, 1)), ((1, 2), (2, 2))])

    def test_three_edges_are_passed(self):
        runner = BankRunner.played(EXAMPLE)
        self.same(runner.marks[3] - runner.marks[2], 3)
        # The second edge after it still had its present cell on the right hand.
        self.same([runner.trail()[number][1] for number in (4, 5, 6, 7)], [(0, 3), (0, 3), (0, 3), (1, 4)])

    def test_a_turn_by_the_words_of_the_document(self):
        for kept in games():
            runner, struck, number = BankRunner(kept.code), [], 0
            for turn in range(1, 37):
                hit = kept.struck[turn - 1]
                trail = runner.trail()
                barred = sorted({right for left, right in trail} | set(SOUTH))
                self.same(runner.barred_at(turn), barred)
                landing = runner.strike(hit)
                struck.append(plain_own(kept.code, hit))
                bank = best_bank(struck, barred)
                self.same(runner.bank_at(turn).extra, bank.extra)
                self.same(runner.struck_by(turn), struck)
                edge, here = trail[-1], trail[-1][1]
                walked = 0
                while walked < 2 or edge[1] == here:
                    edge, walked = next_edge(bank, edge), walked + 1
                    trail.append(edge)
                number += walked
                self.same((landing, runner.cell), (plain_image(kept.code, edge[1]),) * 2)
                self.same((runner.trail(), runner.marks[-1], runner.turn), (trail, number, turn))
            self.same((runner.visited, runner.marks, runner.struck), (kept.visited, kept.marks, kept.struck))

    def test_the_walk_ahead(self):
        for runner in games():
            walk = plain_walk(runner, 0, runner.marks[-1] + 400)
            self.same(runner.trail(), walk[:runner.marks[-1] + 1])
            self.same(runner.edges_ahead(400), walk[runner.marks[-1] + 1:])
            self.same([runner.edges_ahead(many) for many in (0, 1, 7)],
                      [walk[runner.marks[-1] + 1:runner.marks[-1] + 1 + many] for many in (0, 1, 7)])
            cells = [plain_image(runner.code, walk[mark][1]) for mark in runner.marks]
            self.same(runner.visited, tuple(cells))


class FactsTest(PlayCase):
    def test_landings(self):
        found = set()
        for runner in games():
            for turn in range(1, 37):
                before, after = runner.visited[turn - 1], runner.visited[turn]
                passed = runner.marks[turn] - runner.marks[turn - 1]
                found.add(passed)
                self.assertIn(passed, (2, 3))
                self.assertNotIn(after, runner.struck[:turn])
                self.assertNotEqual(after, before)
                self.assertLessEqual(max(abs(after[0] - before[0]), abs(after[1] - before[1])), 2)
        self.assertEqual(found, {2, 3})

    def test_each_turn_of_a_game(self):
        """No right cell ahead is struck, the trail stands, and the walk ends along the shore."""
        for at, style in enumerate(STYLES):
            runner, numbers = BankRunner(at), scattered(4000, 2 ** 20, seed=at + 50)
            for turn in range(36):
                runner.strike(next_strike(runner, style, numbers[turn * 40:turn * 40 + 400]))
                struck, bank = runner.struck_by(runner.turn), runner.bank_at(runner.turn)
                trail, ahead = runner.trail(), runner.edges_ahead(400)
                self.assertFalse([right for left, right in ahead if right in struck])
                self.assertTrue(all(is_boundary(bank, edge) for edge in trail))
                self.assertEqual([next_edge(bank, edge) for edge in trail[:-1]], trail[1:])
                self.assertEqual(len({*trail, *ahead}), len(trail) + 400)
                y = ahead[300][0][1]
                self.assertEqual(ahead[300:], [((-1, y + k), (0, y + k)) for k in range(100)])
                self.same(runner.bank_at(runner.turn - 1).inside(bank), True)

    def test_banks_of_earlier_turns_are_inside(self):
        for runner in games():
            banks = [runner.bank_at(turn) for turn in range(37)]
            self.assertTrue(all(one.inside(two) for one, two in zip(banks, banks[1:])))
            self.assertTrue(all(one.inside(banks[36]) for one in banks))

    def test_moved_games(self):
        for at, runner in enumerate(games()):
            for code in (1, 4, 2 + at % 2, 5 + at % 3):
                symmetry = Symmetry(code)
                other = BankRunner.played([plain_image(code, cell) for cell in runner.struck],
                                          (symmetry * Symmetry(runner.code)).code)
                self.same(other.visited, tuple(plain_image(code, cell) for cell in runner.visited))
                self.same((other.marks, other.bank_at(36).extra), (runner.marks, runner.bank_at(36).extra))

    def test_each_symmetry(self):
        for code in range(8):
            runner = BankRunner.played([plain_image(code, cell) for cell in EXAMPLE], code)
            self.same(runner.visited, tuple(plain_image(code, cell) for cell in ((0, 0), (0, 1), (0, 3), (1, 4))))
            self.same((runner.marks, runner.struck_by(3)), ((0, 2, 4, 7), EXAMPLE))
            self.same(runner.bank_at(3).extra, ((0, 2), (0, 4)))


class CertificatesTest(PlayCase):
    def test_certificates(self):
        for runner in games():
            for turn in (1, 2, 9, 20, 36):
                certificate = runner.certificate_at(turn)
                self.assertIs(type(certificate), BankCertificate)
                self.same(certificate.extra, runner.bank_at(turn).extra)
                self.same(judge_bank(runner.struck_by(turn), runner.barred_at(turn), certificate), True)

    def test_wrong_turns(self):
        runner = BankRunner.played(EXAMPLE)
        for turn in (0, 4, -1, FAR):
            self.refused(BadNumber, {"number": turn}, runner.certificate_at, turn)
        self.refused(BadNumber, {"number": 0}, BankRunner().certificate_at, 0)
        self.refused(BadNumber, {"number": 1}, BankRunner().certificate_at, 1)


class PlayedTest(PlayCase):
    def test_played(self):
        runner = BankRunner.played(tuple(EXAMPLE), code=5)
        self.assertIs(type(runner), BankRunner)
        other = BankRunner(5)
        for cell in EXAMPLE:
            other.strike(cell)
        self.same(state(runner), state(other))
        self.same(BankRunner.played(EXAMPLE).code, 0)

    def test_the_list_is_copied_and_not_changed(self):
        cells = list(EXAMPLE)
        runner = BankRunner.played(cells)
        self.assertEqual(cells, EXAMPLE)
        cells.clear()
        self.same(runner.struck, tuple(EXAMPLE))

    def test_wrong_lists(self):
        for cell in ((121, 0), (0, 121), (-121, 0), (0, -121), (FAR, 0), (0, -FAR)):
            self.refused(BadCell, {"cell": cell}, BankRunner.played, [(0, 0), (0, 0), cell, (500, 500)], 9)
        self.refused(TooMany, {"most": 36}, BankRunner.played, SHORE[:37], 9)
        self.refused(TooMany, {"most": 36}, BankRunner.played, [(500, 0)] * 37)
        self.refused(BadNumber, {"number": 9}, BankRunner.played, [(0, 0)], 9)
        self.same(BankRunner.played(SHORE[:36]).turn, 36)

    def test_strikes_that_are_refused(self):
        self.refused(Occupied, {"cell": (0, 1)}, BankRunner.played, [(0, 2), (0, 1)])
        self.refused(Occupied, {"cell": (0, 0)}, BankRunner.played, [(0, 0), (5, 5), (5, 5)])
        self.refused(AlreadyStruck, {"cell": (0, 2)}, BankRunner.played, [(0, 2), (5, 5), (0, 2), (5, 5)])


class WrongStrikesTest(PlayCase):
    def test_each_error_leaves_everything_as_it_is(self):
        runner = BankRunner.played(EXAMPLE, 3)
        kept = state(runner)
        for cell in ((121, 0), (0, 121), (-121, 0), (0, -121), (FAR, 0), (0, -FAR)):
            self.refused(BadCell, {"cell": cell}, runner.strike, cell)
        self.refused(Occupied, {"cell": runner.cell}, runner.strike, runner.cell)
        for cell in EXAMPLE:
            self.refused(AlreadyStruck, {"cell": cell}, runner.strike, cell)
        self.same(state(runner), kept)

    def test_36_turns(self):
        runner = BankRunner.played(SHORE[:36])
        kept = state(runner)
        # That there are no more turns comes before all that is wrong with the cell.
        for cell in ((FAR, 0), runner.cell, runner.struck[0], (7, 7)):
            self.refused(TooMany, {"most": 36}, runner.strike, cell)
        self.same(state(runner), kept)
        runner.undo()
        self.same(runner.strike(SHORE[37]), (0, 72))

    def test_cells_that_the_runner_has_left_may_be_struck(self):
        runner = BankRunner()
        runner.strike((0, 9))
        self.same((runner.strike((0, 0)), runner.strike((0, 2)), runner.turn), ((0, 4), (0, 6), 3))


class TurnNumbersTest(PlayCase):
    def test_banks(self):
        runner = BankRunner.played(EXAMPLE)
        self.assertIs(type(runner.bank_at(0)), Bank)
        for turn in (-1, 4, FAR, -FAR):
            self.refused(BadNumber, {"number": turn}, runner.bank_at, turn)
            self.refused(BadNumber, {"number": turn}, runner.struck_by, turn)
        self.refused(BadNumber, {"number": 1}, BankRunner().bank_at, 1)
        self.refused(BadNumber, {"number": 1}, BankRunner().struck_by, 1)

    def test_barred_cells(self):
        runner = BankRunner.played(EXAMPLE)
        for turn in (-1, 0, 5, FAR):
            self.refused(BadNumber, {"number": turn}, runner.barred_at, turn)
        self.refused(BadNumber, {"number": 0}, BankRunner().barred_at, 0)
        self.refused(BadNumber, {"number": 2}, BankRunner().barred_at, 2)

    def test_after_36_turns(self):
        for runner in games():
            self.same(runner.barred_at(37), sorted({right for left, right in runner.trail()} | set(SOUTH)))
            self.assertIn(plain_own(runner.code, runner.cell), runner.barred_at(37))
            self.refused(BadNumber, {"number": 38}, runner.barred_at, 38)
            self.refused(BadNumber, {"number": 37}, runner.bank_at, 37)

    def test_the_number_of_edges_ahead(self):
        runner = BankRunner.played(EXAMPLE)
        self.same((len(runner.edges_ahead(400)), runner.edges_ahead(0)), (400, []))
        for many in (-1, 401, FAR, -FAR):
            self.refused(BadNumber, {"number": many}, runner.edges_ahead, many)


class UndoTest(PlayCase):
    def test_undo(self):
        runner = BankRunner(2)
        kept = [state(runner)]
        for cell in game("walls", 2, seed=4).struck:
            runner.strike(cell)
            kept.append(state(runner))
        while runner.turn > 0:
            self.same(state(runner), kept.pop())
            self.same(runner.undo(), None)
        self.same(state(runner), kept.pop())
        self.refused(NothingToUndo, {}, runner.undo)
        self.same(state(runner), state(BankRunner(2)))

    def test_another_way(self):
        runner = BankRunner.played([*EXAMPLE, (2, 5)])
        runner.undo()
        runner.undo()
        self.same(state(runner), state(BankRunner.played(EXAMPLE[:2])))
        runner.strike((5, 5))
        runner.strike((0, 6))
        self.same(state(runner), state(BankRunner.played([*EXAMPLE[:2], (5, 5), (0, 6)])))

    def test_a_played_runner_goes_back_to_its_beginning(self):
        runner = BankRunner.played(EXAMPLE, 1)
        for _ in EXAMPLE:
            runner.undo()
        self.same(state(runner), state(BankRunner(1)))
        self.refused(NothingToUndo, {}, runner.undo)


class CopyTest(PlayCase):
    def test_copies(self):
        for kept in games()[::4]:
            copied = kept.copy()
            self.assertIs(type(copied), BankRunner)
            self.assertIsNot(copied, kept)
            self.same(state(copied), state(kept))

    def test_copies_go_back_to_their_own_beginning(self):
        first = BankRunner.played(EXAMPLE, 4)
        kept = state(first)
        copied = first.copy()
        for _ in EXAMPLE:
            copied.undo()
        self.same(state(copied), state(BankRunner(4)))
        self.refused(NothingToUndo, {}, copied.undo)
        self.same(state(first), kept)

    def test_copies_do_not_change_each_other(self):
        first = BankRunner.played(EXAMPLE)
        kept, copied = state(first), first.copy()
        copied.strike((2, 5))
        self.same(state(first), kept)
        told = state(copied)
        first.undo()
        first.strike((3, 3))
        self.same(state(copied), told)
        self.same(state(copied), state(BankRunner.played([*EXAMPLE, (2, 5)])))
        self.same(state(first), state(BankRunner.played([*EXAMPLE[:2], (3, 3)])))

    def test_what_is_returned_is_new(self):
        runner = BankRunner.played(EXAMPLE)
        kept = state(runner)
        runner.bank_at(3).extra = ()
        runner.bank_at(0).extra = ((5, 5),)
        runner.barred_at(2).clear()
        runner.struck_by(3).clear()
        runner.trail().clear()
        runner.edges_ahead(7).clear()
        certificate = runner.certificate_at(3)
        certificate.extra = ()
        self.same(state(runner), kept)
        self.same(runner.certificate_at(3).extra, ((0, 2), (0, 4)))
        self.same(runner.strike((2, 5)), BankRunner.played([*EXAMPLE, (2, 5)]).cell)


if __name__ == "__main__":
    unittest.main()
