"""Records: games as texts."""

from neverpenned.cells import cell_or_none, cell_text
from neverpenned.checks import check_length
from neverpenned.errors import BadDeed, BadText, PlayError
from neverpenned.games import Game
from neverpenned.phases import MOVE, STRIKE
from neverpenned.regions import Region

RECORD_MOST = 80000
POWER_LINES = ("power 1", "power 2", "power 3", "power 4", "power 5")
# How many lines a record has before those of the deeds.
HEAD_LINES = 5


def record_text(game):
    """Return the record of the game."""
    return "\n".join([*head_lines(game), *[deed_text(deed) for deed in game.deeds]])


def read_record(text):
    """Return the game whose record the text is."""
    check_length(text, RECORD_MOST)
    lines = text.split("\n")
    head = read_head(lines)
    deeds = [deed_or_none(line) for line in lines[HEAD_LINES:]]
    if None in deeds:
        raise BadText(HEAD_LINES + 1 + deeds.index(None))
    game = game_of_head(head)
    for number, deed in enumerate(deeds, start=HEAD_LINES + 1):
        try:
            game.do(deed)
        except PlayError as error:
            raise BadDeed(number) from error
    return game


def head_lines(game):
    """Return the first lines of a record, which tell all but the deeds."""
    board = game.board
    return [
        POWER_LINES[game.power - 1],
        "start " + cell_text(game.start),
        "board open" if board is None else _cells_line("board", board.cells),
        _cells_line("out", game.ways_out),
        _cells_line("before", game.before),
    ]


def read_head(lines):
    """Return the tuple of what the first lines tell, without cells for an open board; raise BadText for a bad line."""
    parts = []
    for number in range(1, HEAD_LINES + 1):
        part = _head_part(number, lines[number - 1]) if number <= len(lines) else None
        if part is None:
            raise BadText(number)
        parts.append(part)
    return tuple(parts)


def game_of_head(head):
    """Return the game without deeds that the first lines tell."""
    power, start, cells, ways_out, before = head
    board = Region(cells) if len(cells) > 0 else None
    return Game(power, start, board=board, ways_out=ways_out, before=before)


def deed_text(deed):
    """Return the line of the deed."""
    name, cell = deed
    return f"{name} {cell_text(cell)}"


def deed_or_none(line):
    """Return the deed that the line tells, or None if it tells none."""
    name, _, text = line.partition(" ")
    cell = cell_or_none(text)
    return None if cell is None or name not in (STRIKE, MOVE) else (name, cell)


def _cells_line(word, cells):
    """Return the line of the word and the cells."""
    return " ".join([word, *[cell_text(cell) for cell in cells]])


def _head_part(number, line):
    """Return what the line tells if it has this number, or None if it is not of the form of that line."""
    if number == 1:
        return POWER_LINES.index(line) + 1 if line in POWER_LINES else None
    if number == 2:
        return cell_or_none(line.removeprefix("start ")) if line.startswith("start ") else None
    if number == 3:
        return _board_cells(line)
    return _cells_after("out" if number == 4 else "before", line)


def _board_cells(line):
    """Return the cells of the board, none for the open board, or None if the line is not of this form."""
    if line == "board open":
        return []
    # A board that is a region has at least one cell.
    return None if line == "board" else _cells_after("board", line)


def _cells_after(word, line):
    """Return the list of the ascending cells after the word, or None if the line is not of this form."""
    if line == word:
        return []
    if not line.startswith(word + " "):
        return None
    cells = [cell_or_none(text) for text in line.removeprefix(word + " ").split(" ")]
    return None if None in cells or cells != sorted(set(cells)) else cells
