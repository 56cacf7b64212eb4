"""Ranks of the positions of small boards: how many strikes the breaker needs to pen the runner."""

from neverpenned.cells import check_cell
from neverpenned.smallboards import SmallBoard, check_outs, check_places, check_small, rank_table


def ranks(board, ways_out, power):
    """Return a dict with the rank of every position, in ascending order of the positions."""
    check_small(board, ways_out, power)
    check_outs(board, ways_out)
    small = SmallBoard(board, ways_out, power)
    ranked = rank_table(small)
    return {position: ranked[position] for position in small.positions()}


def rank(board, ways_out, power, start):
    """Return the rank of the position in which nothing is struck and the runner is at the start."""
    check_small(board, ways_out, power)
    check_cell(start)
    check_places(board, ways_out, start)
    return rank_table(SmallBoard(board, ways_out, power))[((), start)]
