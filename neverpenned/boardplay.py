"""Games on small boards, in which one side plays as well as it can and the other by a list of choices."""

from neverpenned.cells import check_cell
from neverpenned.checks import check_length, check_number
from neverpenned.games import Game
from neverpenned.phases import MOVE, STRIKE
from neverpenned.smallboards import SmallBoard, best_landing, best_strike, check_places, check_small, rank_table

CHOICES_MOST = 100
CHOICE_MOST = 1000


def play_breaker(board, ways_out, power, start, choices):
    """Return a game in which the breaker strikes by the ranks, and the runner moves by the choices."""
    _check_arguments(board, ways_out, power, start, choices)
    small = SmallBoard(board, ways_out, power)
    ranked = rank_table(small)
    game = Game(power, start, board=board, ways_out=ways_out)
    while game.phase == STRIKE:
        position = _position(game)
        # The turns count the moves before this one, for each of which a choice was used up.
        choice = _choice_at(choices, game.turn)
        if ranked[position] is None:
            game.strike(small.free_cells(position)[0])
        else:
            game.strike(best_strike(small, ranked, position))
        if game.phase == MOVE:
            game.move(_chosen(choice, game.landings()))
    return game


def play_runner(board, ways_out, power, start, choices):
    """Return a game in which the breaker strikes by the choices, and the runner moves by the ranks."""
    _check_arguments(board, ways_out, power, start, choices)
    small = SmallBoard(board, ways_out, power)
    ranked = rank_table(small)
    game = Game(power, start, board=board, ways_out=ways_out)
    while game.phase == STRIKE:
        position = _position(game)
        strike = _chosen(_choice_at(choices, game.turn), small.free_cells(position))
        game.strike(strike)
        if game.phase == MOVE and ranked[position] is None:
            game.move(best_landing(small, ranked, position, strike))
        elif game.phase == MOVE:
            game.move(game.landings()[0])
    return game


def _check_arguments(board, ways_out, power, start, choices):
    """Raise the errors of the arguments."""
    check_small(board, ways_out, power)
    check_cell(start)
    check_length(choices, CHOICES_MOST)
    for number in choices:
        check_number(number, 0, CHOICE_MOST)
    check_places(board, ways_out, start)


def _position(game):
    """Return the position of a game on a small board in which the breaker is to strike."""
    return (tuple(sorted([cell for name, cell in game.deeds if name == STRIKE])), game.cell)


def _choice_at(choices, at):
    """Return the choice with this index, and 0 after the last one."""
    return choices[at] if at < len(choices) else 0


def _chosen(choice, cells):
    """Return the cell whose index is the remainder of the choice by their number."""
    return cells[choice % len(cells)]
