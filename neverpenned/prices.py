"""Prices: which of two banks is better for a list of struck cells."""

from neverpenned.basins import BAND, STRUCK_MOST
from neverpenned.cells import check_cells


def count_in(bank, struck):
    """Return the number of different struck cells of the band that are in the bank."""
    check_cells(struck, STRUCK_MOST)
    return _count(bank, struck)


def price(bank, struck):
    """Return the growth of the bank minus twice its count."""
    check_cells(struck, STRUCK_MOST)
    return _price(bank, struck)


def compare(first, second, struck):
    """Return -1 if the first bank is better, 1 if the second one is better, 0 otherwise."""
    check_cells(struck, STRUCK_MOST)
    first_key = worth(first, struck)
    second_key = worth(second, struck)
    if first_key == second_key:
        return 0
    return -1 if first_key < second_key else 1


def worth(bank, struck):
    """Return a tuple that is less for a better bank."""
    return (_price(bank, struck), -_count(bank, struck))


def _count(bank, struck):
    """Return the count of the bank."""
    return len(set([cell for cell in struck if 0 <= cell[0] <= BAND and cell in bank]))


def _price(bank, struck):
    """Return the price of the bank."""
    return bank.growth - 2 * _count(bank, struck)
