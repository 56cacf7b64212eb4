"""Texts of studies: the beginning of the game, and a line for each node."""

from neverpenned.checks import check_length
from neverpenned.errors import BadDeed, BadText, PlayError, TooMany
from neverpenned.records import HEAD_LINES, RECORD_MOST, deed_or_none, deed_text, game_of_head, head_lines, read_head
from neverpenned.studies import DEPTH_MOST, NODES_MOST, ROOT, Study


def study_text(study):
    """Return the text of the study."""
    lines = head_lines(study.game_at(ROOT))
    waiting = study.children(ROOT)[::-1]
    while waiting:
        node = waiting.pop()
        deeds = study.deeds_at(node)
        lines.append(f"{len(deeds)} {deed_text(deeds[-1])}")
        waiting.extend(list(study.children(node)[::-1]))
    return "\n".join(lines)


def read_study(text):
    """Return the study whose text it is."""
    check_length(text, RECORD_MOST)
    lines = text.split("\n")
    head = read_head(lines)
    steps = _read_steps(lines[HEAD_LINES:])
    study = Study(game_of_head(head))
    if len(steps) >= NODES_MOST:
        raise TooMany(NODES_MOST)
    # The latest node of each depth, as far as it is on the way to the latest node.
    way = [ROOT]
    for number, (depth, deed) in enumerate(steps, start=HEAD_LINES + 1):
        many = len(study)
        del way[depth:]
        try:
            way.append(study.add(way[-1], deed))
        except PlayError as error:
            raise BadDeed(number) from error
        if len(study) == many:
            raise BadDeed(number)
    return study


def _read_steps(lines):
    """Return the list of the depths and deeds of the lines; raise BadText for the first one that tells none."""
    depths = {str(depth): depth for depth in range(1, DEPTH_MOST + 1)}
    steps = []
    before = 0
    for number, line in enumerate(lines, start=HEAD_LINES + 1):
        word, _, rest = line.partition(" ")
        depth = depths.get(word)
        deed = deed_or_none(rest)
        if depth is None or depth > before + 1 or deed is None:
            raise BadText(number)
        steps.append((depth, deed))
        before = depth
    return steps
