"""Texts of journals."""

from neverpenned.certtexts import EXTRA, FOLLOWING, certificate_lines, certificate_of, part_line, part_or_none
from neverpenned.checks import check_length, check_number
from neverpenned.errors import BadText
from neverpenned.journals import Entry
from neverpenned.runners import BankRunner
from neverpenned.runnertexts import CODE_LINES

JOURNAL_TEXT_MOST = 2000000
TURN = "turn"


def journal_text(entries, code=0):
    """Return the text of the journal for the symmetry with this code."""
    check_length(entries, BankRunner.MOST)
    lines = []
    for entry in entries:
        lines.append(part_line(TURN, [entry.hit, entry.landing]))
        lines.extend(list(certificate_lines(entry.certificate)))
    check_number(code, 0, len(CODE_LINES) - 1)
    text = "\n".join([CODE_LINES[code], *lines])
    check_length(text, JOURNAL_TEXT_MOST)
    return text


def read_journal(text):
    """Return the tuple of the code and of the list of the entries of the journal whose text it is."""
    check_length(text, JOURNAL_TEXT_MOST)
    lines = text.split("\n")
    if lines[0] not in CODE_LINES:
        raise BadText(1)
    turns = _read_turns(lines)
    check_length(turns, BankRunner.MOST)
    return (CODE_LINES.index(lines[0]), [_entry_of(parts) for parts in turns])


def _read_turns(lines):
    """Return a list for each turn with the kinds and cells of its lines; raise BadText for the first bad line."""
    turns = []
    kinds = (TURN,)
    for number, line in enumerate(lines[1:], start=2):
        part = part_or_none(line, kinds)
        if part is None:
            raise BadText(number)
        if part[0] == TURN:
            turns.append([part])
            kinds = (EXTRA,)
        else:
            turns[-1].append(part)
            kinds = (*FOLLOWING[part[0]], TURN)
    if kinds == (EXTRA,):
        # A certificate would have to begin after the last line.
        raise BadText(len(lines) + 1)
    return turns


def _entry_of(parts):
    """Return the entry that the lines of one turn tell."""
    hit, landing = parts[0][1]
    return Entry(hit, landing, certificate_of(parts[1:]))
