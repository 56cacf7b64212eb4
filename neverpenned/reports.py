"""Reports of bank runners: a table with a line for each turn."""

from neverpenned.cells import cell_text
from neverpenned.prices import count_in, price


def report(runner):
    """Return the report of the bank runner."""
    lines = [_line("turn", "strike", "landing", "growth", "count", "price", "passed")]
    lines.extend([_turn_line(runner, turn) for turn in range(1, runner.turn + 1)])
    return "\n".join(lines)


def totals(runner):
    """Return the number of all edges passed, the growth of the latest bank and its count."""
    bank = runner.bank_at(runner.turn)
    return (runner.marks[-1], bank.growth, count_in(bank, runner.struck_by(runner.turn)))


def _turn_line(runner, turn):
    """Return the line of the turn."""
    bank = runner.bank_at(turn)
    struck = runner.struck_by(turn)
    passed = runner.marks[turn] - runner.marks[turn - 1]
    return _line(turn, cell_text(runner.struck[turn - 1]), cell_text(runner.visited[turn]), bank.growth,
                 count_in(bank, struck), price(bank, struck), passed)


def _line(turn, strike, landing, growth, count, worth, passed):
    """Return the line with these seven columns."""
    return f"{turn:>4} {strike:<9} {landing:<9} {growth:>6} {count:>6} {worth:>6} {passed:>6}"
