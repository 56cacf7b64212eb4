"""Games of the bank runner that the tests share, and what the document says about frames and walks, in plain words."""

from support import scattered

from neverpenned.runners import BankRunner

STYLES = ("near", "ahead", "before it", "bands", "far", "walls", "back")


def plain_image(code, cell):
    """The cell to which the symmetry with this code takes the cell: first mirrored, then turned."""
    x, y = (-cell[0] if code >= 4 else cell[0], cell[1])
    return [(x, y), (-y, x), (-x, -y), (y, -x)][code % 4]


def plain_own(code, cell):
    """The cell that the symmetry takes to this cell."""
    return next(own for own in (plain_image(other, cell) for other in range(8)) if plain_image(code, own) == cell)


def is_free(runner, cell):
    return cell != runner.cell and cell not in runner.struck and max(map(abs, cell)) <= 120


def wished_cell(runner, style, number):
    """A cell of the board that the style strikes, if it is free."""
    x, y = plain_own(runner.code, runner.cell)
    a, b = number % 101, number // 101
    ahead = runner.edges_ahead(30)
    own = {"near": (x + a % 5 - 2, y + b % 5 - 2), "ahead": ahead[a % 9][1], "before it": (x + a % 7, y + 1 + b % 7),
           "bands": (a % 3, b % 40), "far": (a * 2 - 80, b % 240 - 119), "walls": (b % 4, y + a % 9),
           "back": (x + a % 4, y - b % 9)}[style]
    return plain_image(runner.code, own)


def next_strike(runner, style, numbers):
    """The first free cell that the style strikes for one of the numbers."""
    return next(cell for cell in (wished_cell(runner, style, number) for number in numbers) if is_free(runner, cell))


def game(style, code, turns=36, seed=1):
    """A bank runner after a game in this style."""
    runner = BankRunner(code)
    numbers = scattered(turns * 40, 2 ** 20, seed=seed)
    for turn in range(turns):
        runner.strike(next_strike(runner, style, [*numbers[turn * 40:turn * 40 + 40], *range(2000)]))
    return runner


KEPT = {}


def games():
    """Bank runners with each symmetry after games of 36 turns in every style; they must not be changed."""
    if not KEPT:
        for at, style in enumerate(STYLES):
            for seed in range(3):
                KEPT[style, seed] = game(style, (at + 3 * seed) % 8, seed=seed + 10 * at + 1)
    return [KEPT[key] for key in sorted(KEPT)]


def plain_next(bank, edge):
    """The next edge in the bank, by the words of the document, also of one that lies too far away to be passed."""
    (a, b), (c, d) = left, right = edge
    east, north = b - d, c - a
    ahead, beside = (a + east, b + north), (c + east, d + north)
    if ahead not in bank:
        return (left, ahead)
    return (ahead, beside) if beside not in bank else (beside, right)


def plain_walk(runner, first, last):
    """The edges of the walk with these numbers, each one ahead found as the next edge in the latest bank."""
    walk = {number: ((-1, number), (0, number)) for number in range(-120, 0)}
    trail = runner.trail()
    for number, edge in enumerate(trail):
        walk[number] = edge
    bank = runner.bank_at(runner.turn)
    for number in range(len(trail), last + 1):
        walk[number] = plain_next(bank, walk[number - 1])
    return [walk[number] for number in range(first, last + 1)]
