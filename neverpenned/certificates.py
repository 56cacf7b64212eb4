"""Certificates of banks, which show without any search that a bank is the least best one."""

from neverpenned.banks import BANK_MOST
from neverpenned.basins import Basin
from neverpenned.checks import check_length
from neverpenned.cuts import size_of_open
from neverpenned.flows import Flow
from neverpenned.rests import cells_before, first_counts, is_rest_step, passed_steps, ways_to_exits
from neverpenned.streamcheck import check_streams, find_fault

PAIRS_MOST = 10000


class BankCertificate:
    """A certificate of a bank; it need not be right."""

    def __init__(self, extra, streams, grounds, excuses):
        check_length(extra, BANK_MOST)
        check_streams(streams)
        check_length(grounds, PAIRS_MOST)
        check_length(excuses, PAIRS_MOST)
        self.extra = tuple(extra)
        self.streams = tuple([tuple(cells) for cells in streams])
        self.grounds = tuple(grounds)
        self.excuses = tuple(excuses)


def bank_certificate(struck, barred=()):
    """Return a right certificate of the least best bank."""
    basin = Basin(struck, barred)
    if basin.box is None:
        return BankCertificate([], [], [], [])
    flow = Flow(basin)
    streams = flow.all_streams()
    extra = flow.closed_cells()
    passed = passed_steps(streams)
    members = {cell: True for cell in extra}
    inner = [source for source in basin.sources if source in members]
    outer = [source for source in basin.sources if source not in members]
    return BankCertificate(extra, streams, _grounds(basin, passed, inner), _excuses(basin, passed, outer))


def judge_bank(struck, barred, certificate):
    """Tell whether the certificate is right for the struck and barred cells."""
    basin = Basin(struck, barred)
    if not _extra_is_right(basin, certificate.extra):
        return False
    if find_fault(basin, certificate.streams) is not None:
        return False
    if len(certificate.streams) != size_of_open(basin, certificate.extra):
        return False
    return _grounds_are_right(basin, certificate) and _excuses_are_right(basin, certificate)


def _grounds(basin, passed, sources):
    """Return a pair for each cell, other than these sources, to which rest steps lead from them."""
    # All streams that could begin on the shore do, so that no ground begins there.
    before = cells_before(basin, passed, sources)
    return [(before[cell], cell) for cell in before if before[cell] is not None]


def _excuses(basin, passed, sources):
    """Return the pairs of ways by rest steps from these sources to exits, the pairs nearer to an exit first."""
    ways = ways_to_exits(basin, passed)
    used = {}
    for source in sources:
        cell = source
        while cell in ways and cell not in used:
            used[cell] = True
            cell = ways[cell]
    return [(cell, ways[cell]) for cell in ways if cell in used]


def _extra_is_right(basin, extra):
    """Tell whether the cells are different open cells."""
    return len(set(extra)) == len(extra) and all([basin.is_open(cell) for cell in extra])


def _grounds_are_right(basin, certificate):
    """Tell whether each pair of grounds is right, and each cell of extra is a source or has a pair."""
    passed = passed_steps(certificate.streams)
    members = {cell: True for cell in certificate.extra}
    shore = _idle_shore(basin, certificate.streams)
    grounded = {source: True for source in basin.sources if source in members}
    for cell, other in certificate.grounds:
        stepped = cell in grounded and is_rest_step(basin, passed, cell, other)
        if other not in members or not (stepped or shore.get(cell) == other):
            return False
        grounded[other] = True
    return all([cell in grounded for cell in certificate.extra])


def _idle_shore(basin, streams):
    """Return a dict from the cells (-1, y) at which no stream begins, for the rows of the box, to the cells (0, y)."""
    begun = first_counts(streams)
    return {(-1, y): (0, y) for y in basin.rows() if (-1, y) not in begun}


def _excuses_are_right(basin, certificate):
    """Tell whether each pair of excuses is right, and each source that is not in extra has a pair."""
    passed = passed_steps(certificate.streams)
    members = {cell: True for cell in certificate.extra}
    excused = {}
    for cell, other in certificate.excuses:
        if not is_rest_step(basin, passed, cell, other) or not (other in excused or basin.is_exit(cell, other)):
            return False
        excused[cell] = True
    return all([source in members or source in excused for source in basin.sources])
