"""Full streams of a basin."""

from neverpenned.flows import Flow


def full_streams(basin):
    """Return a valid set of full streams: those from the shore, then those from sources, by their first cells."""
    if basin.box is None:
        return []
    return _full_flow(basin).all_streams()


def stream_count(basin):
    """Return the number of full streams."""
    if basin.box is None:
        return 0
    return _full_flow(basin).count_streams()


def _full_flow(basin):
    """Return the flow of full streams of a basin that has a box."""
    flow = Flow(basin)
    shore = [(-1, y) for y in basin.rows()]
    flow.add_streams([*shore, *basin.sources, *basin.sources])
    return flow
