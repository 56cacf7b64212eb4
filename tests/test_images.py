import unittest

from games import games, plain_image
from plays import ROOMS, PlainGame, plain_games, plain_plays, played, shuttle, state
from support import PlayCase
from test_runnertexts import state as runner_state

from neverpenned.errors import NothingToUndo
from neverpenned.games import Game
from neverpenned.images import game_image, runner_image
from neverpenned.runners import BankRunner
from neverpenned.symmetries import Symmetry

# The code of the symmetry that does first the second one and then the first one, found cell by cell.
CELL = (2, 1)
TIMES = {(first, second): next(code for code in range(8) if plain_image(code, CELL) == plain_image(
    first, plain_image(second, CELL))) for first in range(8) for second in range(8)}


class GameImageTest(PlayCase):
    def test_all_kinds_of_games(self):
        for plain in [*plain_games(), *plain_plays()]:
            game = plain.real()
            kept = state(game)
            for code in range(8):
                image = game_image(game, Symmetry(code))
                self.assertIs(type(image), Game)
                self.same(state(image), plain.image(code).state())
                self.same(image.phase, game.phase)
            self.same(state(game), kept)

    def test_an_image_goes_back_to_its_beginning_and_on(self):
        for at, plain in enumerate(plain_plays()):
            game, code = plain.real(), at % 8
            image = game_image(game, Symmetry(code))
            wanted = plain.image(code)
            for _ in plain.deeds:
                self.same(image.undo(), wanted.deeds.pop())
                self.same(state(image), wanted.state())
            self.refused(NothingToUndo, {}, image.undo)
            for deed in played(wanted, 9, seed=at + 70).deeds:
                image.do(deed)
            self.same(state(image), wanted.state())
            self.same(state(game), plain.state())

    def test_images_of_images(self):
        for at, plain in enumerate(plain_plays()):
            for code in range(8):
                symmetry = Symmetry(code)
                self.same(state(game_image(game_image(plain.real(), symmetry), ~symmetry)), plain.state())
            first, second = Symmetry(at % 8), Symmetry(at % 7)
            self.same(state(game_image(game_image(plain.real(), second), first)),
                      state(game_image(plain.real(), first * second)))

    def test_the_phases_on_the_way(self):
        for at, plain in enumerate(plain_plays()):
            game = plain.real()
            image = game_image(game, Symmetry(7 - at % 8))
            while game.deeds:
                game.undo()
                image.undo()
                self.same((image.phase, image.turn, len(image.landings())), (game.phase, game.turn, len(game.landings())))

    def test_a_quarter_turn(self):
        game = PlainGame(2, (-3, 0), ROOMS, [(3, 2)], [(-3, 1)]).begun()
        game.strike((-2, 1))
        game.move((-1, -2))
        image = game_image(game, Symmetry(1))
        self.same((image.start, image.ways_out, image.before, image.deeds, image.cell),
                  ((0, -3), ((-2, 3),), ((-1, -3),), (("strike", (-1, -2)), ("move", (2, -1))), (2, -1)))
        mirrored = game_image(game, Symmetry(4))
        self.same((mirrored.start, mirrored.deeds), ((3, 0), (("strike", (2, 1)), ("move", (1, -2)))))

    def test_the_greatest_game(self):
        plain = PlainGame(1)
        plain.deeds = shuttle(1200)
        image = game_image(plain.real(), Symmetry(6))
        self.same((image.turn, image.deeds), (1200, tuple(plain.image(6).deeds)))


class RunnerImageTest(PlayCase):
    def test_all_games(self):
        for at, runner in enumerate(games()):
            kept = runner_state(runner)
            for code in ((at, at + 3, at + 5) if at > 1 else range(8)):
                image = runner_image(runner, Symmetry(code % 8))
                self.assertIs(type(image), BankRunner)
                self.same(image.code, TIMES[code % 8, runner.code])
                self.same(image.struck, tuple(plain_image(code % 8, cell) for cell in runner.struck))
                # The landings are the same ones, each moved by the symmetry.
                self.same(image.visited, tuple(plain_image(code % 8, cell) for cell in runner.visited))
                self.same((image.marks, image.trail()), (runner.marks, runner.trail()))
                self.same([image.bank_at(turn).extra for turn in range(37)],
                          [runner.bank_at(turn).extra for turn in range(37)])
            self.same(runner_state(runner), kept)

    def test_all_codes(self):
        for code in range(8):
            runner = BankRunner.played([plain_image(code, cell) for cell in ((0, 2), (1, 1), (0, 4))], code)
            for other in range(8):
                image = runner_image(runner, Symmetry(other))
                self.same(image.code, TIMES[other, code])
                self.same(image.visited, tuple(plain_image(other, cell) for cell in runner.visited))
                self.same(runner_state(runner_image(BankRunner(code), Symmetry(other))),
                          runner_state(BankRunner(TIMES[other, code])))

    def test_an_image_goes_back_to_its_beginning_and_on(self):
        runner = games()[4]
        image = runner_image(runner, Symmetry(5))
        for _ in range(36):
            image.undo()
        self.refused(NothingToUndo, {}, image.undo)
        self.same(runner_state(image), runner_state(BankRunner(image.code)))
        self.same([image.strike(plain_image(5, cell)) for cell in runner.struck],
                  [plain_image(5, cell) for cell in runner.visited[1:]])


if __name__ == "__main__":
    unittest.main()
