"""Games by the words of the document that the tests share, found with nothing of the package but its errors."""

from games import plain_image
from support import scattered

from neverpenned.errors import AlreadyStruck, BadCell, BadName, Occupied, OffBoard, TooFar, TooMany, WrongPhase
from neverpenned.games import Game
from neverpenned.regions import Region

# Cells of a board of two rooms with a door, of a ring, of a row and of cells that lie apart.
ROOMS = [(x, y) for x in range(-3, 4) for y in range(-2, 3) if x != 1 or y == 0]
RING = [(x, y) for x in range(-2, 3) for y in range(-2, 3) if max(abs(x), abs(y)) == 2]
ROW = [(x, 0) for x in range(-4, 5)]
APART = [(0, 0), (2, 1), (-3, 4), (120, -120), (-120, 119), (5, 5), (0, 3), (4, -4)]


def apart(first, second):
    return max(abs(first[0] - second[0]), abs(first[1] - second[1]))


class PlainGame:
    """The game that the arguments tell; everything is found anew from the deeds."""

    def __init__(self, power, start=(0, 0), board=None, ways_out=(), before=()):
        self.power, self.start, self.board = power, start, board
        self.ways_out, self.before = sorted(set(ways_out)), sorted(set(before))
        self.deeds = []

    def cell(self):
        return ([self.start] + [cell for name, cell in self.deeds if name == "move"])[-1]

    def struck(self):
        return {*self.before, *[cell for name, cell in self.deeds if name == "strike"]}

    def on_board(self, cell):
        return max(map(abs, cell)) <= 120 if self.board is None else cell in self.board

    def has_free_cell(self):
        struck = self.struck() | {self.cell()}
        return self.board is None or any(cell not in struck for cell in self.board)

    def landings(self):
        (x, y), struck = self.cell(), self.struck()
        span = range(-self.power, self.power + 1)
        return [(x + a, y + b) for a in span for b in span
                if (a, b) != (0, 0) and self.on_board((x + a, y + b)) and (x + a, y + b) not in struck]

    def phase(self):
        just_struck = self.deeds != [] and self.deeds[-1][0] == "strike"
        if self.cell() in self.ways_out:
            return "away"
        if just_struck:
            return "move" if self.landings() else "penned"
        return "strike" if self.has_free_cell() else "penned"

    def refusal(self, name, cell):
        """The error that the deed raises and its fields, or None."""
        cases = [(name not in ("strike", "move"), BadName, {"name": name}),
                 (name != self.phase(), WrongPhase, {"phase": self.phase()}),
                 (name == "strike" and len(self.struck()) - len(self.before) == 1200, TooMany, {"most": 1200}),
                 (max(map(abs, cell)) > 120, BadCell, {"cell": cell}),
                 (not self.on_board(cell), OffBoard, {"cell": cell}),
                 (cell == self.cell(), Occupied, {"cell": cell}),
                 (name == "move" and apart(cell, self.cell()) > self.power, TooFar, {"cell": cell}),
                 (cell in self.struck(), AlreadyStruck, {"cell": cell})]
        return next((case[1:] for case in cases if case[0]), None)

    def state(self):
        board = None if self.board is None else tuple(sorted(set(self.board)))
        return (self.power, self.start, tuple(self.ways_out), tuple(self.before), board, self.cell(), self.phase(),
                len(self.struck()) - len(self.before), tuple(self.deeds), self.landings(), sorted(self.struck()))

    def real(self):
        """The same game of the package."""
        game = self.begun()
        for deed in self.deeds:
            game.do(deed)
        return game

    def begun(self):
        board = None if self.board is None else Region(self.board)
        return Game(self.power, self.start, board=board, ways_out=self.ways_out, before=self.before)

    def image(self, code):
        """The same game, with every cell moved by the symmetry with this code."""
        def moved(cells):
            return [plain_image(code, cell) for cell in cells]
        board = None if self.board is None else moved(self.board)
        other = PlainGame(self.power, *moved([self.start]), board, moved(self.ways_out), moved(self.before))
        other.deeds = [(name, plain_image(code, cell)) for name, cell in self.deeds]
        return other


def state(game, spots=()):
    """All that a game tells about itself, as PlainGame tells it; struck cells are looked for at those of the deeds."""
    board = game.board
    asked = sorted({*spots, *game.before, game.cell, game.start, *[cell for _, cell in game.deeds], *game.landings()})
    return (game.power, game.start, game.ways_out, game.before, None if board is None else board.cells, game.cell,
            game.phase, game.turn, game.deeds, game.landings(), [cell for cell in asked if game.is_struck(cell)])


def plain_games():
    """New games without deeds, of all powers and on many boards."""
    return [PlainGame(1), PlainGame(2, (3, -4), before=[(3, -3), (4, -4), (0, 0), (120, 120)]),
            PlainGame(5, (118, -119), before=[(117, -119)]), PlainGame(1, (-120, 120), before=[(-119, 119)]),
            PlainGame(1, (0, 0), ROOMS), PlainGame(2, (-3, -2), ROOMS, [(3, 2), (1, 0)]),
            PlainGame(1, (-3, 0), ROOMS, [(3, 2), (3, -2)], [(2, 2), (-2, -1), (1, 0)]),
            PlainGame(1, (2, 2), RING, [(-2, -2)]), PlainGame(2, (0, 2), RING, [], [(0, -2), (2, 2)]),
            PlainGame(3, (4, 0), ROW, [(-4, 0)], [(1, 0), (2, 0)]), PlainGame(4, (0, 0), ROW, [(-4, 0), (4, 0)]),
            PlainGame(2, (0, 0), APART, [(0, 3)]), PlainGame(5, (0, 3), APART, [(120, -120)], [(5, 5)]),
            PlainGame(1, (0, 0), APART), PlainGame(3, (0, 0), [(0, 0)]), PlainGame(1, (0, 0), [(0, 0), (5, 5)]),
            PlainGame(2, (0, 0), [(0, 0), (1, 0)], [(1, 0)]), PlainGame(2, (0, 0), [(0, 0), (1, 0)], [(1, 0)], [(1, 0)]),
            PlainGame(5, (1, 1), [(1, 1), (1, 2), (2, 2)], [], [(2, 2), (1, 2)])]


def next_deed(plain, number):
    """A deed that can be done in the game, or None at its end."""
    name = plain.phase()
    if name == "move":
        return (name, plain.landings()[number % len(plain.landings())])
    if name != "strike":
        return None
    cells = plain.board if plain.board is not None else near_cells(plain.cell(), plain.power + 1)
    free = [cell for cell in sorted(set(cells)) if plain.refusal(name, cell) is None]
    return (name, free[number % len(free)]) if free else None


def near_cells(cell, by):
    span = range(-by, by + 1)
    return [(cell[0] + a, cell[1] + b) for a in span for b in span]


def played(plain, most, seed=1):
    """The game after at most so many deeds."""
    for number in scattered(most, 2 ** 20, seed=seed):
        deed = next_deed(plain, number)
        if deed is None:
            break
        plain.deeds.append(deed)
    return plain


def plain_plays(most=16):
    """Games of all kinds after some deeds."""
    return [played(plain, most, seed=at + 1) for at, plain in enumerate(plain_games() + plain_games())]


def shuttle(turns, power=1):
    """The deeds of a game on the open board in which the runner goes to and fro; far cells are struck."""
    deeds = []
    for turn in range(turns):
        deeds.append(("strike", (-120 + turn // 200, -100 + turn % 200)))
        deeds.append(("move", (power * ((turn + 1) % 2), 0)))
    return deeds
