import unittest

from games import STYLES, games, plain_image
from plays import PlainGame
from plays import state as game_state
from support import FAR, PlayCase, scattered
from test_breakers import hugging, steering
from test_runnertexts import SHORE
from test_runnertexts import state as runner_state

from neverpenned.breakers import PenBreaker
from neverpenned.cells import touching
from neverpenned.errors import AlreadyStruck, BadCell, BadNumber, NothingToUndo, Occupied, TooMany
from neverpenned.games import Game
from neverpenned.hunts import wished_strike
from neverpenned.matches import Match, pen_match
from neverpenned.runners import BankRunner
from neverpenned.strolls import stroll
from neverpenned.walls import corner_cells

EXAMPLE = [(0, 2), (1, 1), (0, 4)]
FAR_CELLS = ((121, 0), (0, 121), (-121, 0), (0, -121), (FAR, 0), (0, -FAR))


def state(match):
    return (runner_state(match.runner), game_state(match.game), match.turn)


def plain_state(runner, power):
    """The state of a match with this bank runner; the deeds of its game are those of the runner."""
    plain = PlainGame(power)
    for cell, landing in zip(runner.struck, runner.visited[1:]):
        plain.deeds += [("strike", cell), ("move", landing)]
    return (runner_state(runner), plain.state(), runner.turn)


class MatchTest(PlayCase):
    def test_new_matches(self):
        self.same(state(Match()), plain_state(BankRunner(), 2))
        for code in range(8):
            for power in (2, 3, 4, 5):
                self.same(state(Match(code, power)), plain_state(BankRunner(code), power))
        match = Match(power=5, code=3)
        self.same((match.runner.code, match.game.power, match.game.board, match.game.before), (3, 5, None, ()))
        self.assertIs(type(match.runner), BankRunner)
        self.assertIs(type(match.game), Game)

    def test_matches_beside_a_runner_and_a_game(self):
        for at, runner in enumerate(games()[::2]):
            power = at % 4 + 2
            match, other, beside = Match(runner.code, power), BankRunner(runner.code), Game(power)
            for turn, cell in enumerate(runner.struck):
                landing = match.strike(cell)
                self.same(landing, other.strike(cell))
                beside.strike(cell)
                # Point 31: the landing is free, near enough and another cell.
                self.assertIn(landing, [cell for cell in beside.landings() if max(
                    abs(cell[0] - beside.cell[0]), abs(cell[1] - beside.cell[1])) <= 2])
                beside.move(landing)
                self.same((match.turn, match.game.phase, match.game.cell), (turn + 1, "strike", landing))
                if turn % 9 == 0:
                    self.same(state(match), (runner_state(other), game_state(beside), turn + 1))
            self.same(state(match), plain_state(runner, power))

    def test_hunts_in_matches(self):
        for power in (2, 3, 4, 5):
            match = Match(power + 2, power)
            for wish in scattered(36, 625, seed=power):
                match.strike(wished_strike(match.runner, wish))
                self.assertEqual((match.game.phase, match.game.cell), ("strike", match.runner.cell))
            self.same(state(match), plain_state(match.runner, power))

    def test_played(self):
        for at, runner in enumerate(games()[:6]):
            match = Match.played(list(runner.struck), runner.code, at % 4 + 2)
            self.assertIs(type(match), Match)
            self.same(state(match), plain_state(runner, at % 4 + 2))
        self.same(state(Match.played([])), state(Match()))
        self.same(state(Match.played(tuple(EXAMPLE), power=4)), plain_state(BankRunner.played(EXAMPLE), 4))
        self.same(Match.played(SHORE[:36]).turn, 36)

    def test_the_runner_and_the_game_are_new_each_time(self):
        match = Match.played(EXAMPLE)
        kept = state(match)
        runner, game = match.runner, match.game
        runner.strike((9, 9))
        game.strike((8, 8))
        match.runner.undo()
        match.game.undo()
        self.same(state(match), kept)
        for _ in range(4):
            runner.undo()
        for _ in range(7):
            game.undo()
        self.refused(NothingToUndo, {}, runner.undo)
        self.refused(NothingToUndo, {}, game.undo)
        self.same(state(match), kept)
        told = match.runner
        match.strike((30, 30))
        self.same(told.turn, 3)

    def test_undo(self):
        for runner in games()[1::5]:
            match, other = Match.played(list(runner.struck), runner.code), runner.copy()
            for _ in range(36):
                self.assertIsNone(match.undo())
                other.undo()
                if other.turn % 6 == 0:
                    self.same(state(match), plain_state(other, 2))
            self.refused(NothingToUndo, {}, match.undo)
            self.same(state(match), state(Match(runner.code)))
            match.strike(plain_image(runner.code, (0, 2)))
            self.same(match.turn, 1)

    def test_copy(self):
        match = Match.played(EXAMPLE, 0, 3)
        copied, kept = match.copy(), state(match)
        self.assertIs(type(copied), Match)
        self.same(state(copied), kept)
        copied.strike((9, 9))
        copied.strike((8, 9))
        self.same((state(match), copied.turn), (kept, 5))
        match.undo()
        self.same((copied.turn, match.turn, copied.game.turn), (5, 2, 5))
        for _ in range(5):
            copied.undo()
        self.same(state(copied), state(Match(0, 3)))
        self.refused(NothingToUndo, {}, copied.undo)

    def test_another_way(self):
        match = Match.played(EXAMPLE, 0, 5)
        match.undo()
        match.undo()
        self.same(match.strike((1, 2)), BankRunner.played([(0, 2), (1, 2)]).cell)
        self.same(state(match), plain_state(BankRunner.played([(0, 2), (1, 2)]), 5))


class RefusedMatchTest(PlayCase):
    def test_codes_and_powers(self):
        for code in (-1, 8, FAR, -FAR):
            self.refused(BadNumber, {"number": code}, Match, code)
            self.refused(BadNumber, {"number": code}, Match, code, 1)
            self.refused(BadNumber, {"number": code}, Match.played, [(0, 0)], code, 1)
        for power in (1, 6, 0, -2, FAR):
            self.refused(BadNumber, {"number": power}, Match, 0, power)
            self.refused(BadNumber, {"number": power}, Match.played, [(0, 0)], 7, power)

    def test_lists_of_strikes(self):
        self.refused(TooMany, {"most": 36}, Match.played, [(FAR, 0)] * 37, 8, 1)
        for cell in FAR_CELLS:
            self.refused(BadCell, {"cell": cell}, Match.played, [(0, 0), cell, (FAR, 9)], 8, 1)
        self.refused(Occupied, {"cell": (0, 1)}, Match.played, [(0, 2), (0, 1), (0, 2)])
        self.refused(AlreadyStruck, {"cell": (0, 2)}, Match.played, [(0, 2), (0, 2), (0, 0)])

    def test_strikes(self):
        match = Match.played(EXAMPLE)
        kept = state(match)
        for cell in FAR_CELLS:
            self.refused(BadCell, {"cell": cell}, match.strike, cell)
        self.refused(Occupied, {"cell": (1, 4)}, match.strike, (1, 4))
        for cell in EXAMPLE:
            self.refused(AlreadyStruck, {"cell": cell}, match.strike, cell)
        self.same(state(match), kept)
        match = Match.played(SHORE[:36])
        kept = state(match)
        for cell in ((FAR, 0), match.game.cell, SHORE[0], (50, 50)):
            self.refused(TooMany, {"most": 36}, match.strike, cell)
        self.same(state(match), kept)


class PenMatchTest(PlayCase):
    def plain_match(self, breaker, cells):
        """The game of a pen breaker whose runner stood on these cells."""
        corners = corner_cells(breaker.half) if breaker.prepared else []
        plain = PlainGame(1, breaker.start, None, (), corners)
        for at, cell in enumerate(breaker.struck[:1200]):
            plain.deeds += [("strike", cell), *[("move", other) for other in cells[at + 1:at + 2]]]
        return plain

    def check(self, breaker, cells):
        game, plain = pen_match(breaker), self.plain_match(breaker, cells)
        self.assertIs(type(game), Game)
        self.same((game.power, game.start, game.board, game.ways_out, game.before, game.deeds),
                  (1, plain.start, None, (), tuple(plain.before), tuple(plain.deeds)))
        if game.turn < 1200:
            self.same((game.phase, game.cell), (breaker.phase, breaker.cell))
        return game

    def test_new_breakers(self):
        self.same(game_state(pen_match(PenBreaker())), PlainGame(1).state())
        self.same(game_state(pen_match(PenBreaker(12, (6, -5), prepared=True))),
                  PlainGame(1, (6, -5), None, (), corner_cells(12)).state())

    def test_games_turn_by_turn(self):
        for half, start, prepared, choose in ((10, (0, 0), True, hugging(0)), (13, (2, -3), True, steering(2)),
                                              (65, (0, 0), False, hugging(3))):
            breaker, cells = PenBreaker(half, start, prepared=prepared), [start]
            for turn in range(70):
                self.check(breaker, cells)
                breaker.strike()
                self.check(breaker, cells)
                free = [cell for cell in touching(breaker.cell) if not breaker.is_struck(cell)]
                breaker.move(choose(turn, free, breaker.cell))
                cells.append(breaker.cell)
            for _ in range(61):
                breaker.undo()
                cells = cells[:-1] if breaker.phase == "move" else cells
                self.check(breaker, cells)

    def test_a_penned_runner(self):
        cells, strikes, breaker = stroll(PenBreaker(10, prepared=True), [1, 5, 0], 18000)
        kept = breaker.struck
        game = self.check(breaker, cells)
        self.same((game.phase, game.turn, game.landings()), ("penned", len(strikes), []))
        while game.deeds:
            game.undo()
        self.refused(NothingToUndo, {}, game.undo)
        self.same((breaker.struck, breaker.phase), (kept, "penned"))

    def test_many_strikes(self):
        cells, _, breaker = stroll(PenBreaker(), [0, 4], 1199)
        game = self.check(breaker, cells)
        self.same((game.turn, game.phase, len(game.deeds)), (1199, "strike", 2398))
        breaker.strike()
        game = self.check(breaker, cells)
        self.same((game.turn, game.phase, len(game.deeds)), (1200, "move", 2399))
        cells, _, breaker = stroll(PenBreaker(), [0, 4], 1200)
        game = self.check(breaker, cells)
        self.same((game.turn, game.phase, len(game.deeds)), (1200, "strike", 2400))
        kept = game.deeds
        breaker.strike()
        self.same(self.check(breaker, cells).deeds, kept)
        cells, _, breaker = stroll(PenBreaker(), [0, 4], 3000)
        self.same(self.check(breaker, cells).deeds, kept)
        self.refused(TooMany, {"most": 1200}, pen_match(breaker).strike, (100, 100))

    def test_a_greatest_match(self):
        cells, _, breaker = stroll(PenBreaker(65, (59, -59), prepared=True), [3, 3, 6, 1], 18000)
        game = self.check(breaker, cells)
        self.same((game.turn, len(game.before), breaker.phase), (1200, 60, "penned"))


if __name__ == "__main__":
    unittest.main()
