import unittest

from games import game, plain_image
from support import FAR, PlayCase, scattered
from test_runnertexts import SHORE, state

from neverpenned.errors import BadNumber, NothingToUndo, TooMany
from neverpenned.hunts import hunt, wished_strike
from neverpenned.runners import BankRunner


def plain_wish(runner, wish):
    """The cell that is struck, by the words of the document."""
    def is_free(cell):
        return max(map(abs, cell)) <= 120 and cell not in runner.struck and cell != runner.cell
    x, y = runner.cell
    cell = (x + wish % 25 - 12, y + wish // 25 - 12)
    span = range(-12, 13)
    return cell if is_free(cell) else min((x + a, y + b) for a in span for b in span if is_free((x + a, y + b)))


class WishedStrikeTest(PlayCase):
    def test_all_wishes(self):
        for at, style in enumerate(("near", "ahead", "far", "walls")):
            for turns in (0, 3, 36):
                runner = game(style, at, turns, seed=at + 1)
                kept = state(runner)
                for wish in range(625):
                    self.same(wished_strike(runner, wish), plain_wish(runner, wish))
                self.same(state(runner), kept)

    def test_wishes(self):
        runner = BankRunner()
        for wish, cell in ((0, (-12, -12)), (24, (12, -12)), (25, (-12, -11)), (624, (12, 12)), (313, (1, 0)),
                           (311, (-1, 0)), (337, (0, 1)), (12, (0, -12))):
            self.same(wished_strike(runner, wish), cell)
        # The cell of the runner itself is wished.
        self.same(wished_strike(runner, 312), (-12, -12))
        # The frame of the board counts, whatever the symmetry of the runner is.
        for code in range(8):
            self.same(wished_strike(BankRunner(code), 324), (12, 0))

    def test_wishes_that_cannot_be_met(self):
        runner = BankRunner()
        for _ in range(36):
            cell = wished_strike(runner, 312)
            self.same(cell, plain_wish(runner, 312))
            runner.strike(cell)
        self.assertEqual(len(set(runner.struck)), 36)
        # All struck cells are wished once more.
        runner = BankRunner.played([(-12, y) for y in range(-6, 20)])
        x, y = runner.cell
        for wish in range(625):
            if (x + wish % 25 - 12, y + wish // 25 - 12) in runner.struck:
                self.same(wished_strike(runner, wish), plain_wish(runner, wish))

    def test_the_least_free_cell(self):
        runner = BankRunner()
        wanted = []
        for _ in range(20):
            x, y = runner.cell
            wanted.append((x - 12, y - 12))
            runner.strike(wished_strike(runner, 312))
        self.same(runner.struck, tuple(wanted))
        # The runner goes north along the column 0, by two cells in each turn.
        runner = BankRunner.played([(-12, y) for y in range(-12, 24)])
        self.same((runner.cell, wished_strike(runner, 312)), ((0, 72), (-12, 60)))
        runner = BankRunner.played([(-12, -6), (-12, -3), (-12, -5)])
        self.same((runner.cell, wished_strike(runner, 312)), ((0, 6), (-12, -4)))
        # All cells of the column but the last one are struck, and then all of them.
        runner = BankRunner.played([(-12, y) for y in range(36, 60)])
        self.same((runner.cell, wished_strike(runner, 312)), ((0, 48), (-12, 60)))
        runner = BankRunner.played([(-12, y) for y in range(38, 63)])
        self.same((runner.cell, wished_strike(runner, 600)), ((0, 50), (-11, 38)))

    def test_cells_beyond_the_reach(self):
        # No runner comes so far in 36 turns; one is put there by its field.
        for spot in ((120, 120), (-120, -120), (115, -113), (-110, 119)):
            runner = BankRunner.played([(0, 2), (1, 1)])
            runner.cell = spot
            for wish in range(0, 625, 7):
                self.same(wished_strike(runner, wish), plain_wish(runner, wish))

    def test_wrong_wishes(self):
        runner = BankRunner.played(SHORE[:36])
        for wish in (-1, 625, FAR, -FAR):
            self.refused(BadNumber, {"number": wish}, wished_strike, runner, wish)
        self.same([wished_strike(runner, wish) for wish in (0, 624)], [plain_wish(runner, wish) for wish in (0, 624)])


class HuntTest(PlayCase):
    def test_hunts(self):
        for code in range(8):
            wishes = scattered(36, 625, seed=code + 1)
            runner, other = BankRunner(code), BankRunner(code)
            for wish in wishes:
                other.strike(plain_wish(other, wish))
            given = list(wishes)
            hunted = hunt(runner, given)
            self.assertIs(type(hunted), BankRunner)
            self.same(state(hunted), state(other))
            self.same((state(runner), given), (state(BankRunner(code)), wishes))

    def test_wishes_near_the_runner(self):
        for code in range(8):
            for span in (1, 2, 3):
                wishes = [(12 + a % (2 * span + 1) - span) * 25 + 12 + b % (2 * span + 1) - span
                          for a, b in zip(scattered(36, 50, seed=code + 1), scattered(36, 50, seed=span + 20))]
                hunted = hunt(BankRunner(code), wishes)
                again = BankRunner(code)
                for wish, cell in zip(wishes, hunted.struck):
                    self.same(plain_wish(again, wish), cell)
                    again.strike(cell)
                self.same(state(hunted), state(again))

    def test_hunts_that_go_on(self):
        runner = BankRunner.played([plain_image(5, cell) for cell in ((0, 2), (1, 1), (0, 4))], 5)
        kept = state(runner)
        self.same(state(hunt(runner, [])), kept)
        first = hunt(runner, (330, 312, 5))
        self.same((first.turn, first.struck[:3], state(runner)), (6, runner.struck, kept))
        self.same(state(hunt(first, [7, 8])), state(hunt(runner, [330, 312, 5, 7, 8])))

    def test_a_hunt_goes_back_to_its_beginning(self):
        runner = BankRunner.played([(0, 2), (1, 1)])
        hunted = hunt(runner, [0, 300, 624])
        for _ in range(3):
            hunted.undo()
        self.same(state(hunted), state(runner))
        hunted.undo()
        hunted.undo()
        self.same((state(hunted), runner.turn), (state(BankRunner()), 2))
        self.refused(NothingToUndo, {}, hunted.undo)

    def test_the_number_of_wishes(self):
        runner = BankRunner.played(SHORE[:5])
        self.refused(TooMany, {"most": 36}, hunt, runner, [FAR] * 37)
        self.refused(TooMany, {"most": 36}, hunt, runner, [0] * 37)
        for wish in (-1, 625, FAR):
            self.refused(BadNumber, {"number": wish}, hunt, runner, [0, 624, wish, 700] + [0] * 32)
        self.refused(TooMany, {"most": 36}, hunt, runner, [0] * 32)
        self.refused(TooMany, {"most": 36}, hunt, runner, [0] * 36)
        self.same(hunt(runner, [0] * 31).turn, 36)
        self.same(runner.struck, tuple(SHORE[:5]))
        full = BankRunner.played(SHORE[:36])
        self.same(state(hunt(full, [])), state(full))
        self.refused(TooMany, {"most": 36}, hunt, full, [0])


if __name__ == "__main__":
    unittest.main()
