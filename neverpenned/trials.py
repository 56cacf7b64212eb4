"""Trials: deeds that are taken back at the end of a block."""

from neverpenned.checks import check_length
from neverpenned.errors import PlayError

DEEDS_MOST = 2400


class Trial:
    """A context in which a game may be played on or back; at its end the game is as it was when it was entered."""

    def __init__(self, game):
        self._game = game

    def __enter__(self):
        kept = self._game.copy()
        self._cell = kept.cell
        self._phase = kept.phase
        self._struck = kept._struck
        self._deeds = kept._deeds
        self._path = kept._path
        return self._game

    def __exit__(self, kind, value, trace):
        game = self._game
        game.cell = self._cell
        game.phase = self._phase
        game._struck = self._struck
        game._deeds = self._deeds
        game._path = self._path


def try_deeds(game, deeds):
    """Return how many of the deeds can be done one after the other, and the phase after them."""
    check_length(deeds, DEEDS_MOST)
    done = 0
    with Trial(game) as trial:
        try:
            for deed in deeds:
                trial.do(deed)
                done += 1
        except PlayError:
            # The deed that is refused has changed nothing.
            pass
        phase = trial.phase
    return (done, phase)
