"""Texts of bank runners: the code and the struck cells."""

from neverpenned.cells import cell_or_none, cell_text
from neverpenned.checks import check_length
from neverpenned.errors import BadDeed, BadText, PlayError
from neverpenned.runners import BankRunner

RUNNER_TEXT_MOST = 1000
CODE_LINES = ("code 0", "code 1", "code 2", "code 3", "code 4", "code 5", "code 6", "code 7")


def runner_text(runner):
    """Return the text of the bank runner."""
    return "\n".join([CODE_LINES[runner.code], *[cell_text(cell) for cell in runner.struck]])


def read_runner(text):
    """Return the bank runner whose text it is."""
    check_length(text, RUNNER_TEXT_MOST)
    lines = text.split("\n")
    if lines[0] not in CODE_LINES:
        raise BadText(1)
    cells = [cell_or_none(line) for line in lines[1:]]
    if None in cells:
        raise BadText(cells.index(None) + 2)
    runner = BankRunner(CODE_LINES.index(lines[0]))
    for number, cell in enumerate(cells, start=2):
        try:
            runner.strike(cell)
        except PlayError as error:
            raise BadDeed(number) from error
    return runner
