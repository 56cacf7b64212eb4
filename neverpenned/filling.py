"""Reading regions back from loops around them."""

from neverpenned.checks import check_length
from neverpenned.errors import NoRegion
from neverpenned.loops import summed_windings
from neverpenned.regions import Region

LOOPS_MOST = 400


def total_windings(loops):
    """Return a dict with the sums that are not 0 of the winding numbers in all loops, by ascending cells."""
    check_length(loops, LOOPS_MOST)
    return summed_windings([edge for loop in loops for edge in loop.edges])


def region_of(loops):
    """Return the region of the cells for which the sum of the winding numbers in all loops is 1."""
    sums = total_windings(loops)
    for cell in sums:
        if sums[cell] != 1:
            raise NoRegion(cell)
    return Region(list(sums))
