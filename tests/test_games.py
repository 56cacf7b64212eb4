import unittest

from plays import (APART, RING, ROOMS, ROW, PlainGame, near_cells, next_deed, plain_games, plain_plays, played, shuttle,
                   state)
from support import FAR, PlayCase, scattered

from neverpenned.errors import (AlreadyStruck, BadCell, BadName, BadNumber, NothingToUndo, Occupied, OffBoard, TooFar,
                                TooMany, WrongPhase)
from neverpenned.games import TURNS_MOST, Game
from neverpenned.regions import Region

FAR_CELLS = ((121, 0), (0, 121), (-121, 0), (0, -121), (FAR, 0), (0, -FAR))
GRID = [(x, y) for x in range(40) for y in range(20)]


class NewGameTest(PlayCase):
    def test_fields(self):
        game = Game(3)
        self.same((game.power, game.start, game.ways_out, game.before, game.cell, game.phase, game.board, game.turn,
                   game.deeds), (3, (0, 0), (), (), (0, 0), "strike", None, 0, ()))
        game = Game(2, (1, 2), board=Region([(1, 3), (1, 2), (0, 0), (7, 7)]), ways_out=[(7, 7), (0, 0), (7, 7)],
                    before=[(1, 3), (0, 0), (1, 3)])
        self.same((game.power, game.start, game.ways_out, game.before, game.cell, game.phase, game.turn, game.deeds),
                  (2, (1, 2), ((0, 0), (7, 7)), ((0, 0), (1, 3)), (1, 2), "strike", 0, ()))
        self.assertIs(type(game.board), Region)
        self.same(game.board.cells, ((0, 0), (1, 2), (1, 3), (7, 7)))
        self.same(TURNS_MOST, 1200)
        self.same(Game(power=5, start=(120, -120)).cell, (120, -120))

    def test_all_new_games(self):
        for plain in plain_games():
            self.same(state(plain.begun(), near_cells((0, 0), 6)), plain.state())

    def test_tuples_are_taken_too(self):
        game = Game(1, board=Region(((0, 0), (1, 0))), ways_out=((1, 0),), before=((1, 0),))
        self.same((game.ways_out, game.before, game.phase), (((1, 0),), ((1, 0),), "penned"))

    def test_phases_at_the_start(self):
        row = Region([(0, 0), (1, 0), (2, 0)])
        self.same(Game(1, board=Region([(5, 5)]), start=(5, 5)).phase, "penned")
        self.same(Game(5, board=row, before=[(1, 0), (2, 0)]).phase, "penned")
        self.same(Game(5, board=row, before=[(2, 0), (1, 0)], ways_out=[(1, 0)]).phase, "penned")
        self.same(Game(5, board=row, before=[(1, 0)]).phase, "strike")
        # A runner that can reach nothing is not penned before a strike.
        self.same(Game(1, board=row, before=[(1, 0)]).phase, "strike")
        self.same(Game(1, board=Region([(0, 0), (100, 100)])).phase, "strike")
        self.same(Game(1, (120, 120), before=[(119, 119), (119, 120), (120, 119)]).phase, "strike")

    def test_arguments_are_copied_and_not_changed(self):
        board, outs, before = Region(ROW), [(4, 0), (-4, 0), (4, 0)], [(2, 0), (1, 0)]
        game = Game(1, board=board, ways_out=outs, before=before)
        self.same((board.cells, outs, before), (tuple(ROW), [(4, 0), (-4, 0), (4, 0)], [(2, 0), (1, 0)]))
        board -= Region([(0, 0), (-1, 0)])
        board |= Region([(0, 1)])
        outs.clear()
        before.append((3, 0))
        self.same((game.board.cells, game.ways_out, game.before), (tuple(ROW), ((-4, 0), (4, 0)), ((1, 0), (2, 0))))
        self.refused(OffBoard, {"cell": (0, 1)}, game.strike, (0, 1))
        game.strike((3, 0))
        game.move((-1, 0))

    def test_the_board_is_new_each_time(self):
        game = Game(1, board=Region(ROW))
        told = game.board
        told -= Region([(1, 0)])
        told |= Region([(0, 1)])
        self.same(game.board.cells, tuple(ROW))
        game.strike((1, 0))
        self.refused(OffBoard, {"cell": (0, 1)}, game.move, (0, 1))


class RefusedGameTest(PlayCase):
    def test_the_power(self):
        for power in (0, 6, -1, FAR, -FAR):
            self.refused(BadNumber, {"number": power}, Game, power, (FAR, 0), ways_out=[(FAR, 1)])
        for power in (1, 5):
            self.same(Game(power).power, power)

    def test_single_arguments(self):
        board = Region(GRID)
        for cell in FAR_CELLS:
            self.refused(BadCell, {"cell": cell}, Game, 1, cell, board=board, ways_out=[(0, 0)] * 801)
            self.refused(BadCell, {"cell": cell}, Game, 1, (0, 0), board=board, ways_out=[(50, 50), cell, (FAR, 3)],
                         before=[(0, 0)] * 801)
            self.refused(BadCell, {"cell": cell}, Game, 1, (50, 50), board=board, ways_out=[(50, 50)],
                         before=[(50, 51), cell, (FAR, 3)])
        self.refused(TooMany, {"most": 800}, Game, 1, (50, 50), board=board, ways_out=[(FAR, 0)] * 801)
        self.refused(TooMany, {"most": 800}, Game, 1, (50, 50), board=board, ways_out=[(50, 50)], before=[(FAR, 0)] * 801)
        self.refused(TooMany, {"most": 800}, Game, 1, ways_out=[(0, 1)] * 801)

    def test_the_greatest_lists(self):
        board = Region(GRID)
        game = Game(1, board=board, ways_out=[*GRID[1:], (1, 1)], before=[(1, 1), *GRID[1:]])
        self.same((game.phase, len(game.ways_out), len(game.before)), ("penned", 799, 799))
        game = Game(1, board=board, before=[(39, 19)] * 800)
        self.same((game.phase, game.before), ("strike", ((39, 19),)))
        game = Game(1, (-1, 0), before=GRID)
        self.same((game.phase, game.before), ("strike", tuple(GRID)))

    def test_off_the_board(self):
        board = Region([(0, 0), (1, 0), (2, 0)])
        self.refused(OffBoard, {"cell": (0, 1)}, Game, 1, (0, 1), board=board, ways_out=[(5, 5)], before=[(6, 6)])
        self.refused(OffBoard, {"cell": (0, 0)}, Game, 1, board=Region(), ways_out=[(0, 0)])
        self.refused(OffBoard, {"cell": (5, 5)}, Game, 1, board=board, ways_out=[(0, 0), (5, 5), (4, 4)],
                     before=[(0, 0), (6, 6)])
        self.refused(OffBoard, {"cell": (6, 6)}, Game, 1, board=board, ways_out=[(0, 0)], before=[(0, 0), (6, 6), (4, 4)])
        self.refused(OffBoard, {"cell": (1, 0)}, Game, 1, ways_out=[(1, 0), (0, 0)], before=[(0, 0)])
        self.refused(OffBoard, {"cell": (0, 0)}, Game, 1, ways_out=[(0, 0)])

    def test_an_occupied_start(self):
        board = Region([(0, 0), (1, 0), (2, 0)])
        self.refused(Occupied, {"cell": (0, 0)}, Game, 1, board=board, ways_out=[(2, 0), (0, 0)], before=[(0, 0)])
        self.refused(AlreadyStruck, {"cell": (0, 0)}, Game, 1, board=board, ways_out=[(2, 0)], before=[(2, 0), (0, 0)])
        self.refused(AlreadyStruck, {"cell": (7, 7)}, Game, 1, (7, 7), before=[(7, 7)])


class PlayTest(PlayCase):
    def play_beside(self, plain, most, seed):
        """Play a game of the package beside a plain one, with deeds that are refused before each deed."""
        game, kept = plain.begun(), []
        spots = near_cells(plain.start, 3)
        for number in scattered(most, 2 ** 20, seed=seed):
            here = plain.state()
            kept.append(here)
            self.same(state(game, plain.board or ()), here)
            x, y = plain.cell()
            for cell in [*spots[number % 5::5], (x, y), (x + 1, y), (x + plain.power + 1, y), (121, y), (x, -FAR),
                         (60, 60), *plain.before[:2], *plain.ways_out[:2], *plain.landings()[:2]]:
                for name in ("strike", "move", "penned"):
                    refusal = plain.refusal(name, cell)
                    if refusal is not None:
                        self.refused(*refusal, game.do, (name, cell))
                        if name != "penned":
                            self.refused(*refusal, getattr(game, name), cell)
            self.same(state(game, plain.board or ()), here)
            deed = next_deed(plain, number)
            if deed is None:
                break
            self.assertIsNone(game.do(deed) if number % 2 else getattr(game, deed[0])(deed[1]))
            plain.deeds.append(deed)
        return game, kept

    def test_all_kinds_of_games(self):
        ends = []
        for at, plain in enumerate(plain_games() * 2):
            plain.deeds.clear()
            game, kept = self.play_beside(plain, 24, at + 1)
            ends.append(game.phase)
            self.same(game.copy().deeds, game.deeds)
            while game.deeds:
                deed = game.deeds[-1]
                # The last state is that at the end of the game, or one deed earlier.
                if kept[-1][8] == game.deeds:
                    kept.pop()
                self.same(game.undo(), deed)
                self.same(state(game, plain.board or ()), kept[-1])
            self.refused(NothingToUndo, {}, game.undo)
            self.same(state(game, plain.board or ()), kept[0])
        self.assertLessEqual({"penned", "away"}, set(ends))

    def test_phases_after_a_strike(self):
        row = Region([(0, 0), (1, 0), (2, 0)])
        game = Game(1, board=row)
        game.strike((1, 0))
        self.same(game.phase, "penned")
        game = Game(2, board=row)
        game.strike((1, 0))
        self.same((game.phase, game.landings()), ("move", [(2, 0)]))
        game = Game(1, board=Region([(0, 0), (9, 9), (8, 8)]))
        game.strike((9, 9))
        self.same((game.phase, game.landings()), ("penned", []))
        # A struck way out is no landing.
        game = Game(1, board=row, ways_out=[(1, 0)])
        game.strike((1, 0))
        self.same(game.phase, "penned")

    def test_phases_after_a_move(self):
        row = Region([(0, 0), (1, 0), (2, 0)])
        game = Game(1, board=row, ways_out=[(1, 0)])
        game.strike((2, 0))
        self.same(game.landings(), [(1, 0)])
        game.move((1, 0))
        self.same((game.phase, game.cell), ("away", (1, 0)))
        for call in (game.strike, game.move):
            self.refused(WrongPhase, {"phase": "away"}, call, (0, 0))
            self.refused(WrongPhase, {"phase": "away"}, call, (FAR, 0))
        game = Game(1, board=row)
        game.strike((2, 0))
        game.move((1, 0))
        self.same((game.phase, game.landings()), ("strike", [(0, 0)]))
        game.strike((0, 0))
        self.same((game.phase, game.landings(), game.turn), ("penned", [], 2))
        for call in (game.strike, game.move):
            self.refused(WrongPhase, {"phase": "penned"}, call, (0, 0))

    def test_wrong_phases_come_first(self):
        game = Game(1)
        self.refused(WrongPhase, {"phase": "strike"}, game.move, (FAR, 0))
        game.strike((5, 5))
        self.refused(WrongPhase, {"phase": "move"}, game.strike, (FAR, 0))
        penned = Game(1, board=Region([(0, 0)]))
        self.refused(WrongPhase, {"phase": "penned"}, penned.strike, (0, 0))
        self.refused(WrongPhase, {"phase": "penned"}, penned.move, (0, 0))

    def test_a_struck_cell_that_is_too_far(self):
        game = Game(2)
        game.strike((3, 0))
        self.refused(TooFar, {"cell": (3, 0)}, game.move, (3, 0))
        self.refused(TooFar, {"cell": (0, -3)}, game.move, (0, -3))
        game.move((2, 2))
        game.strike((0, 0))
        self.refused(AlreadyStruck, {"cell": (3, 0)}, game.move, (3, 0))
        self.refused(AlreadyStruck, {"cell": (0, 0)}, game.move, (0, 0))
        self.refused(Occupied, {"cell": (2, 2)}, game.move, (2, 2))

    def test_landings_at_the_reach(self):
        for power in range(1, 6):
            for x, y in ((120, 120), (-120, 118), (0, -120)):
                span = range(-power, power + 1)
                wanted = sorted((x + a, y + b) for a in span for b in span
                                if (a, b) != (0, 0) and max(abs(x + a), abs(y + b)) <= 120)
                self.same(Game(power, (x, y)).landings(), wanted)

    def test_the_landings_are_new_each_time(self):
        self.fresh(Game(2, (119, 119)).landings)

    def test_do_takes_names_of_deeds_alone(self):
        game = Game(1)
        for name in ("", "Strike", "strikes", "strike ", "penned", "away", "undo", "do", "s"):
            self.refused(BadName, {"name": name}, game.do, (name, (FAR, 0)))
        game.strike((5, 5))
        for name in ("", "Move", "phase"):
            self.refused(BadName, {"name": name}, game.do, (name, (1, 0)))
        self.same(game.do(("move", (1, 0))), None)
        self.same(game.deeds, (("strike", (5, 5)), ("move", (1, 0))))

    def test_is_struck(self):
        game = Game(1, board=Region(ROW), before=[(3, 0)])
        game.strike((-2, 0))
        game.move((1, 0))
        self.same([game.is_struck(cell) for cell in ROW], [x in (3, -2) for x, y in ROW])
        self.same([game.is_struck(cell) for cell in ((0, 1), (120, 120), (-120, -120))], [False] * 3)
        for cell in FAR_CELLS:
            self.refused(BadCell, {"cell": cell}, game.is_struck, cell)


class ManyTurnsTest(PlayCase):
    def test_the_greatest_number_of_strikes(self):
        for power in (1, 5):
            game = Game(power)
            deeds = shuttle(1200, power)
            for deed in deeds[:-1]:
                game.do(deed)
            self.same((game.turn, game.phase), (1200, "move"))
            self.refused(WrongPhase, {"phase": "move"}, game.strike, (FAR, 0))
            game.do(deeds[-1])
            self.same((game.turn, game.phase, game.deeds), (1200, "strike", tuple(deeds)))
            for cell in ((FAR, 0), (0, 0), (50, 50), game.cell, deeds[0][1]):
                self.refused(TooMany, {"most": 1200}, game.strike, cell)
                self.refused(TooMany, {"most": 1200}, game.copy().strike, cell)
                self.refused(TooMany, {"most": 1200}, game.do, ("strike", cell))
            self.refused(WrongPhase, {"phase": "strike"}, game.move, (1, 1))
            self.same(game.undo(), deeds[-1])
            self.same(game.undo(), deeds[-2])
            game.strike((50, 50))
            self.same((game.turn, game.phase), (1200, "move"))

    def test_cells_struck_before_are_no_strikes(self):
        game = Game(1, (-1, 0), before=GRID)
        for name, cell in shuttle(30):
            game.do((name, cell) if name == "strike" else (name, (-1 - cell[0], 0)))
        self.same((game.turn, len(game.before)), (30, 800))
        self.refused(AlreadyStruck, {"cell": (3, 3)}, game.strike, (3, 3))


class CopyTest(PlayCase):
    def test_copies(self):
        for plain in plain_plays():
            game, kept = plain.real(), plain.state()
            copied = game.copy()
            self.assertIs(type(copied), Game)
            self.same(state(copied), kept)
            for number in range(3):
                deed = next_deed(plain, number)
                if deed is not None:
                    plain.deeds.append(deed)
                    copied.do(deed)
            self.same(state(copied), plain.state())
            self.same(state(game), kept)
            while game.deeds:
                game.undo()
            self.same(state(copied), plain.state())

    def test_copies_go_back_as_far(self):
        for plain in plain_plays():
            game = plain.real()
            copied = game.copy()
            for deed in plain.deeds[::-1]:
                self.same(copied.undo(), deed)
                game.undo()
                self.same(state(copied), state(game))
            self.refused(NothingToUndo, {}, copied.undo)
            self.same(state(copied), state(plain.begun()))

    def test_another_way(self):
        for at, plain in enumerate(plain_plays()):
            game = plain.real()
            for _ in range(len(plain.deeds) // 2):
                self.same(game.undo(), plain.deeds.pop())
            many = len(plain.deeds)
            played(plain, 6, seed=at + 90)
            for deed in plain.deeds[many:]:
                game.do(deed)
            self.same(state(game), plain.state())


class PlainGameTest(PlayCase):
    def test_the_games_of_the_tests_are_of_many_kinds(self):
        plays = plain_plays(30)
        self.assertEqual({plain.phase() for plain in plays if plain.board}, {"strike", "penned", "away"})
        self.assertTrue(any(len(plain.deeds) > 20 for plain in plays))
        self.assertEqual([len(set(cells)) for cells in (ROOMS, RING, ROW, APART)], [31, 16, 9, 8])
        self.assertIs(PlainGame(1).phase(), "strike")


if __name__ == "__main__":
    unittest.main()
