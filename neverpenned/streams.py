"""Full streams of a basin."""

from neverpenned.flows import Flow


def full_streams(basin):
    """Return a valid set of full streams: those from the shore, then those from sources, by their first cells."""
    if basin.box is None:
        return []
    return Flow(basin).all_streams()


def stream_count(basin):
    """Return the number of full streams."""
    if basin.box is None:
        return 0
    return Flow(basin).count_streams()
