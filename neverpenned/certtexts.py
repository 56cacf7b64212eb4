"""Texts of certificates of banks."""

from neverpenned.cells import cell_or_none, plain_text
from neverpenned.certificates import BankCertificate
from neverpenned.checks import check_length
from neverpenned.errors import BadCell, BadText

CERTIFICATE_TEXT_MOST = 1000000
# In these texts the coordinates of cells have no greater number, without sign.
COORDINATE_MOST = 121
EXTRA = "extra"
STREAM = "stream"
GROUND = "ground"
EXCUSE = "excuse"
# Which lines of a certificate may come after one of each kind.
FOLLOWING = {
    "extra": ("stream", "ground", "excuse"),
    "stream": ("stream", "ground", "excuse"),
    "ground": ("ground", "excuse"),
    "excuse": ("excuse",),
}
# The lines of these kinds have any number of cells, those of all other kinds have two.
LONG_KINDS = ("extra", "stream")


def certificate_text(certificate):
    """Return the text of the certificate."""
    return "\n".join(certificate_lines(certificate))


def read_certificate(text):
    """Return the BankCertificate whose text it is."""
    check_length(text, CERTIFICATE_TEXT_MOST)
    parts = []
    kinds = (EXTRA,)
    for number, line in enumerate(text.split("\n"), start=1):
        part = part_or_none(line, kinds)
        if part is None:
            raise BadText(number)
        parts.append(part)
        kinds = FOLLOWING[part[0]]
    return certificate_of(parts)


def certificate_lines(certificate):
    """Return the lines of the text of the certificate."""
    lines = [part_line(EXTRA, certificate.extra)]
    lines.extend([part_line(STREAM, cells) for cells in certificate.streams])
    lines.extend([part_line(GROUND, pair) for pair in certificate.grounds])
    lines.extend([part_line(EXCUSE, pair) for pair in certificate.excuses])
    return lines


def part_line(kind, cells):
    """Return the line of this kind with the cells; raise BadCell for one that lies too far away."""
    return " ".join([kind, *[_wide_text(cell) for cell in cells]])


def part_or_none(line, kinds):
    """Return the tuple of the kind and the cells that the line tells, or None if it is of none of these kinds."""
    kind, *texts = line.split(" ")
    if kind not in kinds or (kind not in LONG_KINDS and len(texts) != 2):
        return None
    cells = [cell_or_none(text, COORDINATE_MOST) for text in texts]
    return None if None in cells else (kind, cells)


def certificate_of(parts):
    """Return the certificate that the lines tell of which these are the kinds and cells, in their order."""
    return BankCertificate(
        parts[0][1],
        [cells for kind, cells in parts if kind == STREAM],
        [tuple(cells) for kind, cells in parts if kind == GROUND],
        [tuple(cells) for kind, cells in parts if kind == EXCUSE],
    )


def _wide_text(cell):
    """Return the text of the cell, which may lie one cell beyond the reach."""
    if max(abs(cell[0]), abs(cell[1])) > COORDINATE_MOST:
        raise BadCell(cell)
    return plain_text(cell)
