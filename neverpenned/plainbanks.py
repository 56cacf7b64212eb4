"""Best banks of small basins, found by trying all lots of open cells."""

from neverpenned.banks import Bank
from neverpenned.basins import Basin
from neverpenned.cuts import open_lots
from neverpenned.prices import worth


def best_banks(struck, barred=()):
    """Return the best banks whose extra cells are open cells of the basin, in ascending order of these cells."""
    banks = [Bank(cells) for cells in open_lots(Basin(struck, barred))]
    worths = [worth(bank, struck) for bank in banks]
    best = min(worths)
    extras = sorted([bank.extra for bank, told in zip(banks, worths) if told == best])
    return [Bank(extra) for extra in extras]


def plain_best(struck, barred=()):
    """Return the bank of the extra cells that are in all best banks."""
    banks = best_banks(struck, barred)
    common = banks[0]
    for bank in banks:
        common = common & bank
    return common
