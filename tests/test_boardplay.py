import unittest

from boards import SEVENS, PlainBoard, small_boards, some_outs
from plays import PlainGame, state
from support import FAR, PlayCase, scattered

from neverpenned.boardplay import play_breaker, play_runner
from neverpenned.errors import BadCell, BadNumber, NoCells, NothingToUndo, Occupied, OffBoard, TooMany, TooMuch
from neverpenned.games import Game
from neverpenned.regions import Region

FAR_CELLS = ((121, 0), (0, 121), (-121, 0), (0, -121), (FAR, 0), (0, -FAR))
ROW = Region([(0, 0), (1, 0), (2, 0)])
LISTS = ([], [0], [1], [1000], [2, 1], [3, 0, 5, 7], scattered(100, 1001, seed=5), scattered(6, 12, seed=8))


def some_boards():
    """Small boards with the starts, fewer than there are."""
    for cells, outs, power in list(small_boards())[::4]:
        yield cells, outs, power, [cell for cell in cells if cell not in outs][:2]
    for at, cells in enumerate(SEVENS):
        for power in (1, 2):
            for outs in some_outs(cells, at)[:3]:
                yield cells, outs, power, [cell for cell in cells if cell not in outs][:2]


class BoardPlayCase(PlayCase):
    def begin(self, call, cells, outs, power, start, choices):
        """The game that the function returns, once checked as a whole; and a plain board and a plain game."""
        given = list(choices)
        game = call(Region(cells), outs, power, start, given)
        self.assertIs(type(game), Game)
        self.same(given, list(choices))
        plain = PlainGame(power, start, sorted(set(cells)), outs)
        plain.deeds = list(game.deeds)
        self.same(state(game), plain.state())
        self.assertIn(game.phase, ("penned", "away"))
        plain.deeds = []
        return game, PlainBoard(cells, outs, power), plain


class PlayBreakerTest(BoardPlayCase):
    def check(self, cells, outs, power, start, choices):
        """Play the game again, and check each deed by the words of the document."""
        game, plain, again = self.begin(play_breaker, cells, outs, power, start, choices)
        numbers = list(choices)
        for name, cell in game.deeds:
            position = (tuple(sorted(again.struck())), again.cell())
            if name == "strike" and plain.rank(position) is None:
                self.same(cell, plain.free(position)[0])
            elif name == "strike":
                self.assertTrue(plain.is_good(position, cell, plain.rank(position)))
            else:
                number = numbers.pop(0) if numbers else 0
                self.same(cell, again.landings()[number % len(again.landings())])
            again.deeds.append((name, cell))
        first = plain.rank(((), start))
        self.assertTrue(first is None or game.phase == "penned" and game.turn <= first)
        return game.phase, first

    def test_games(self):
        found = {self.check(cells, outs, power, start, choices) for cells, outs, power, starts in some_boards()
                 for start in starts for choices in LISTS}
        self.assertLessEqual({("penned", 0), ("penned", 1), ("penned", 4), ("penned", None), ("away", None)}, found)

    def test_a_row(self):
        game = play_breaker(ROW, [], 1, (0, 0), [])
        self.same((game.deeds, game.phase, game.turn), ((("strike", (1, 0)),), "penned", 1))
        game = play_breaker(ROW, [(2, 0)], 1, (1, 0), [5])
        self.same(game.deeds, (("strike", (2, 0)), ("move", (0, 0)), ("strike", (1, 0))))
        game = play_breaker(ROW, [(0, 0), (2, 0)], 1, (1, 0), [5])
        self.same((game.deeds, game.phase), ((("strike", (0, 0)), ("move", (2, 0))), "away"))
        self.same(play_breaker(Region([(3, 3)]), [], 1, (3, 3), [1]).deeds, ())

    def test_the_choices_are_used_up_one_by_one(self):
        cells = SEVENS[2]
        for choices in ([0, 0, 0], [0, 1, 0], [1, 0], [1, 1]):
            self.same(play_breaker(Region(cells), [], 2, (3, 0), choices).deeds,
                      play_breaker(Region(cells), [], 2, (3, 0), [*choices, 0, 0]).deeds)
        # A choice among one landing uses up a number, too; here the runner first has one landing, then two.
        games = [play_breaker(Region(SEVENS[0]), [], 1, (2, 0), [7, number]) for number in range(3)]
        self.same([[name for name, _ in game.deeds] for game in games], [["strike", "move"] * 2 + ["strike"]] * 3)
        self.assertEqual([game.deeds[:3] == games[0].deeds[:3] for game in games], [True] * 3)
        self.assertEqual([game.cell == games[0].cell for game in games], [True, False, True])


class PlayRunnerTest(BoardPlayCase):
    def check(self, cells, outs, power, start, choices):
        game, plain, again = self.begin(play_runner, cells, outs, power, start, choices)
        numbers = list(choices)
        for name, cell in game.deeds:
            struck = again.struck() - ({again.deeds[-1][1]} if name == "move" else set())
            position = (tuple(sorted(struck)), again.cell())
            if name == "strike":
                number, free = numbers.pop(0) if numbers else 0, plain.free(position)
                self.same(cell, free[number % len(free)])
            elif plain.rank(position) is None:
                after = plain.after(position, again.deeds[-1][1], cell)
                self.assertTrue(cell in again.landings() and (cell in outs or plain.rank(after) is None))
            else:
                self.same(cell, again.landings()[0])
            again.deeds.append((name, cell))
        first = plain.rank(((), start))
        self.assertTrue(first is not None or game.phase == "away")
        return game.phase, first

    def test_games(self):
        found = {self.check(cells, outs, power, start, choices) for cells, outs, power, starts in some_boards()
                 for start in starts for choices in LISTS}
        self.assertLessEqual({("penned", 0), ("penned", 1), ("penned", 4), ("away", 2), ("away", None)}, found)

    def test_a_row(self):
        game = play_runner(ROW, [(0, 0), (2, 0)], 1, (1, 0), [3])
        self.same((game.deeds, game.phase), ((("strike", (2, 0)), ("move", (0, 0))), "away"))
        game = play_runner(ROW, [], 1, (1, 0), [1, 0])
        self.same((game.deeds, game.phase), ((("strike", (2, 0)), ("move", (0, 0)), ("strike", (1, 0))), "penned"))
        game = play_runner(ROW, [], 1, (1, 0), [1, 1])
        self.same((game.deeds, game.phase), ((("strike", (2, 0)), ("move", (0, 0)), ("strike", (1, 0))), "penned"))
        # In a position with a rank the runner goes to its least landing, although a greater one is a way out.
        game = play_runner(Region([(0, 0), (1, 0), (2, 0)]), [(2, 0)], 1, (1, 0), [])
        self.same(game.deeds, (("strike", (0, 0)), ("move", (2, 0))))
        game = play_runner(Region([(0, 0), (1, 0), (2, 0), (1, 1)]), [(2, 0)], 1, (1, 0), [])
        self.same(game.deeds[:2], (("strike", (0, 0)), ("move", (1, 1))))
        self.same(play_runner(Region([(3, 3)]), [], 1, (3, 3), [1]).phase, "penned")

    def test_games_go_back_to_their_beginning(self):
        for call in (play_breaker, play_runner):
            game = call(Region(SEVENS[3]), [], 1, (1, 1), [4, 7])
            while game.deeds:
                game.undo()
            self.refused(NothingToUndo, {}, game.undo)
            self.same(state(game), PlainGame(1, (1, 1), SEVENS[3]).state())


class RefusedBoardPlayTest(PlayCase):
    def test_wrong_arguments(self):
        far, bad = (FAR, 0), [1001] * 101
        for call in (play_breaker, play_runner):
            self.refused(TooMuch, {"most": 7}, call, Region([*SEVENS[2], (7, 0)]), [far] * 8, 0, far, bad)
            self.refused(NoCells, {}, call, Region(), [far] * 8, 0, far, bad)
            self.refused(TooMany, {"most": 7}, call, ROW, [far] * 8, 0, far, bad)
            for cell in FAR_CELLS:
                self.refused(BadCell, {"cell": cell}, call, ROW, [(5, 5), cell, (FAR, 1)], 0, far, bad)
                self.refused(BadCell, {"cell": cell}, call, ROW, [(5, 5)], 1, cell, bad)
            for power in (0, 6, -1, FAR):
                self.refused(BadNumber, {"number": power}, call, ROW, [(5, 5)], power, far, bad)
            self.refused(TooMany, {"most": 100}, call, ROW, [(5, 5)], 1, (3, 0), bad)
            for number in (-1, 1001, FAR, -FAR):
                self.refused(BadNumber, {"number": number}, call, ROW, [(5, 5)], 1, (3, 0), [0, 1000, number, -7])
            self.refused(OffBoard, {"cell": (5, 5)}, call, ROW, [(0, 0), (5, 5)], 1, (3, 0), [])
            self.refused(OffBoard, {"cell": (3, 0)}, call, ROW, [(0, 0)], 1, (3, 0), [])
            self.refused(Occupied, {"cell": (0, 0)}, call, ROW, [(2, 0), (0, 0)], 1, (0, 0), [])
            self.same(call(ROW, [], 1, (0, 0), (1000,) * 100).phase, "penned")


if __name__ == "__main__":
    unittest.main()
