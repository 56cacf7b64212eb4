"""Images of games and of bank runners by symmetries."""

from neverpenned.games import Game
from neverpenned.runners import BankRunner
from neverpenned.symmetries import Symmetry


def game_image(game, symmetry):
    """Return the image of the game."""
    board = game.board
    image = Game(game.power, symmetry(game.start), board=None if board is None else board.image(symmetry),
                 ways_out=[symmetry(cell) for cell in game.ways_out], before=[symmetry(cell) for cell in game.before])
    for name, cell in game.deeds:
        image.do((name, symmetry(cell)))
    return image


def runner_image(runner, symmetry):
    """Return the bank runner that has played the same turns, moved by the symmetry."""
    code = (symmetry * Symmetry(runner.code)).code
    return BankRunner.played([symmetry(cell) for cell in runner.struck], code)
