"""Journals of bank runners, which show that their banks and landings are the right ones."""

from neverpenned.banks import Bank
from neverpenned.cells import REACH
from neverpenned.certificates import judge_bank
from neverpenned.checks import check_length
from neverpenned.runners import BankRunner
from neverpenned.symmetries import Symmetry
from neverpenned.walks import barred_cells, passed_edges, start_edge


class Entry:
    """One turn in a journal: the struck cell, the landing and the certificate of the bank; none need be right."""

    def __init__(self, hit, landing, certificate):
        self.hit = hit
        self.landing = landing
        self.certificate = certificate


def journal(runner):
    """Return the list of the entries for the turns of the bank runner."""
    return [Entry(runner.struck[turn - 1], runner.visited[turn], runner.certificate_at(turn))
            for turn in range(1, runner.turn + 1)]


def first_bad_turn(entries, code=0):
    """Return the number of the first turn with which the journal is not right, or None if it is right."""
    check_length(entries, BankRunner.MOST)
    symmetry = Symmetry(code)
    to_own = ~symmetry
    trail = [start_edge(0)]
    hits = []
    for turn, entry in enumerate(entries, start=1):
        if not _may_be_hit(entry.hit, symmetry(trail[-1][1]), hits):
            return turn
        hits.append(entry.hit)
        if not judge_bank([to_own(cell) for cell in hits], barred_cells(trail), entry.certificate):
            return turn
        passed = passed_edges(Bank(entry.certificate.extra), trail[-1])
        if symmetry(passed[-1][1]) != entry.landing:
            return turn
        trail.extend(list(passed))
    return None


def _may_be_hit(cell, runner_cell, hits):
    """Tell whether the cell, which may be any, can be struck after these cells."""
    return max(abs(cell[0]), abs(cell[1])) <= REACH and cell != runner_cell and cell not in hits
