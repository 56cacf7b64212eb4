"""Matches: bank runners and pen breakers that play in games."""

from neverpenned.cells import POWER_MOST, check_cells
from neverpenned.checks import check_number
from neverpenned.games import TURNS_MOST, Game
from neverpenned.runners import BankRunner
from neverpenned.walls import corner_cells

# The bank runner needs at least this power.
POWER_LEAST = 2


class Match:
    """A bank runner together with the game that it plays, in which the breaker is to strike."""

    def __init__(self, code=0, power=2):
        self._runner = BankRunner(code)
        check_number(power, POWER_LEAST, POWER_MOST)
        self._game = Game(power)

    @classmethod
    def played(cls, strikes, code=0, power=2):
        """Return a match in which the cells of the list were struck."""
        check_cells(strikes, BankRunner.MOST)
        begun = cls(code, power)
        for cell in strikes:
            begun.strike(cell)
        return begun

    @property
    def runner(self):
        """A new BankRunner in the state of the match."""
        return self._runner.copy()

    @property
    def game(self):
        """A new Game in the state of the match."""
        return self._game.copy()

    @property
    def turn(self):
        """The number of turns so far."""
        return self._runner.turn

    def strike(self, cell):
        """Play a turn in which this cell is struck, and return the landing."""
        landing = self._runner.strike(cell)
        # What the runner accepts, and where it lands, is right in the game as well.
        self._game.strike(cell)
        self._game.move(landing)
        return landing

    def undo(self):
        """Take back the latest turn."""
        self._runner.undo()
        self._game.undo()
        self._game.undo()

    def copy(self):
        """Return a new match in the same state."""
        copied = Match(self._runner.code, self._game.power)
        copied._runner = self._runner.copy()
        copied._game = self._game.copy()
        return copied


def pen_match(breaker):
    """Return the game of power 1 that the pen breaker has played, up to the greatest number of strikes."""
    game = Game(1, breaker.start, before=corner_cells(breaker.half) if breaker.prepared else [])
    landings = breaker.path()[1:]
    for at, cell in enumerate(breaker.struck[:TURNS_MOST]):
        game.strike(cell)
        if at < len(landings):
            game.move(landings[at])
    return game
