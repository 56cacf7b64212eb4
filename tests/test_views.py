import unittest

from games import games, plain_image, plain_own
from support import FAR, PlayCase
from test_runnertexts import state

from neverpenned.boxes import Box
from neverpenned.errors import BadCell, BadNumber, BadText, TooMany, TooMuch
from neverpenned.regions import Region
from neverpenned.runners import BankRunner
from neverpenned.views import View, read_view, view

EXAMPLE = [(0, 2), (1, 1), (0, 4)]
LINES = ["#...", "#XR.", "#o..", "#X..", "#ox.", "#o.."]


def plain_view(runner, box):
    """The lines of the view, by the words of the document."""
    bank = runner.bank_at(runner.turn)
    lines = []
    for y in range(box.north, box.south - 1, -1):
        line = ""
        for x in range(box.west, box.east + 1):
            own = plain_own(runner.code, (x, y))
            in_bank = own[0] < 0 or own in bank.extra
            line += ("R" if (x, y) == runner.cell else "X" if (x, y) in runner.struck and in_bank
                     else "x" if (x, y) in runner.struck else "#" if in_bank
                     else "o" if (x, y) in runner.visited else ".")
        lines.append(line)
    return lines


def fields(shown):
    return (shown.cell, shown.struck, shown.bank, shown.visited)


def boxes_at(runner):
    """Boxes around the runner, around its first cell, and at the rim."""
    x, y = runner.cell
    return [Box(max(x - 20, -120), max(y - 15, -120), min(x + 20, 120), min(y + 15, 120)), Box(-6, -5, 7, 8), Box(x, y, x, y),
            Box(100, 100, 120, 120), Box(-120, -120, -117, -90)]


class ViewTest(PlayCase):
    def test_games(self):
        signs = set()
        for runner in games():
            kept = state(runner)
            for box in boxes_at(runner):
                text = view(runner, box)
                signs.update(text)
                self.same(text.split("\n"), plain_view(runner, box))
            self.same(state(runner), kept)
        self.assertEqual(signs, set("RXx#o.\n"))

    def test_all_symmetries(self):
        for code in range(8):
            runner = BankRunner.played([plain_image(code, cell) for cell in EXAMPLE], code)
            box = Box(-6, -7, 8, 9)
            self.same(view(runner, box).split("\n"), plain_view(runner, box))
            self.same(view(BankRunner(code), box).split("\n"), plain_view(BankRunner(code), box))

    def test_views(self):
        runner = BankRunner.played(EXAMPLE)
        self.same(view(runner, Box(-1, 0, 2, 5)), "\n".join(LINES))
        self.same(view(BankRunner(), Box(-1, 0, 1, 0)), "#R.")
        self.same(view(BankRunner(4), Box(-1, 0, 1, 0)), ".R#")
        self.same(view(BankRunner(1), Box(0, -1, 0, 1)), ".\nR\n#")
        self.same(view(runner, Box(120, 120, 120, 120)), ".")
        self.same(view(runner, Box(-120, -120, -120, -120)), "#")
        # A struck cell of the shore belongs to the bank, one that the runner has left does not.
        runner = BankRunner.played([(-1, 0), (9, 9), (0, 0)])
        self.same(view(runner, Box(-2, 0, 1, 0)), "#Xx.")

    def test_turns_that_were_taken_back(self):
        runner = games()[2].copy()
        while runner.turn:
            runner.undo()
            if runner.turn % 5 == 0:
                for box in boxes_at(runner)[:2]:
                    self.same(view(runner, box).split("\n"), plain_view(runner, box))
        self.same(view(runner, Box(-9, -9, 9, 9)), view(BankRunner(runner.code), Box(-9, -9, 9, 9)))

    def test_the_area(self):
        runner = BankRunner.played(EXAMPLE)
        self.same(view(runner, Box(-50, -20, 49, 29)).split("\n"), plain_view(runner, Box(-50, -20, 49, 29)))
        # 5002 is 61 times 82; no box within the reach has 5001 cells.
        for box in (Box(-50, -20, 49, 30), Box(0, 0, 60, 81), Box(-120, -120, 120, 120), Box(-120, 0, 120, 20)):
            self.refused(TooMuch, {"most": 5000}, view, runner, box)
        self.same(len(view(runner, Box(0, -120, 0, 120))), 481)


class ReadViewTest(PlayCase):
    def test_views_are_read_back(self):
        for runner in games()[::2]:
            for box in boxes_at(runner):
                told = read_view(view(runner, box), box.west, box.south)
                cells = box.all_cells()
                bank = runner.bank_at(36)
                inside = [cell for cell in cells if runner.to_own(cell) in bank and cell != runner.cell]
                wanted = (runner.cell if runner.cell in box else None,
                          tuple(cell for cell in cells if cell in runner.struck), tuple(inside),
                          tuple(cell for cell in cells if cell in runner.visited and cell != runner.cell
                                and cell not in runner.struck and cell not in inside))
                self.assertIs(type(told), View)
                self.same(fields(told), wanted)

    def test_texts(self):
        self.same(fields(read_view("\n".join(LINES), -1, 0)),
                  ((1, 4), ((0, 2), (0, 4), (1, 1)),
                   ((-1, 0), (-1, 1), (-1, 2), (-1, 3), (-1, 4), (-1, 5), (0, 2), (0, 4)), ((0, 0), (0, 1), (0, 3))))
        self.same(fields(read_view(".", 120, 120)), (None, (), (), ()))
        self.same(fields(read_view("R", -120, -120)), ((-120, -120), (), (), ()))
        self.same(fields(read_view("Xx#o", 5, 6)), (None, ((5, 6), (6, 6)), ((5, 6), (7, 6)), ((8, 6),)))
        self.same(fields(read_view("o\n#\nx\nX", 5, 6)), (None, ((5, 6), (5, 7)), ((5, 6), (5, 8)), ((5, 9),)))

    def bad(self, line, text):
        self.refused(BadText, {"line": line}, read_view, text, 500, 500)

    def test_bad_lines(self):
        for text in ("", "\n", "\n...", "?", "r", "P", "+", "O", " ", "..\t", "\u0445", ". .", "..\r\n..", "..\u2028.."):
            self.bad(1, text)
        for line in ("", ".", "...", "r.", ".?", ". ", " .", "..\r"):
            self.bad(2, "..\n" + line + "\n..")
            self.bad(2, "..\n" + line + "\n?")
            self.bad(3, "..\n..\n" + line)
        self.bad(3, "..\n..\n")
        # A second runner, in the same line or in a later one.
        self.bad(1, "RR")
        self.bad(1, "R.R\n?")
        self.bad(2, "R..\n..R\n...")
        self.bad(4, "...\nR..\n...\nR..\n?")
        self.bad(2, "R..\n.RR")
        self.bad(3, "...\n.R.\n..\n..R")

    def test_the_length(self):
        lines = ["." * 99] * 60
        self.same(len("\n".join(lines)), 5999)
        self.same(fields(read_view("\n".join(lines), -50, -50)), (None, (), (), ()))
        self.refused(BadText, {"line": 61}, read_view, "\n".join(lines) + "\n", -50, -50)
        self.refused(TooMany, {"most": 6000}, read_view, "\n".join(lines) + "\n.", 500, 500)
        self.refused(BadText, {"line": 1}, read_view, "?" * 6000, 500, 500)
        self.refused(TooMany, {"most": 6000}, read_view, "?" * 6001, 500, 500)

    def test_places(self):
        for number in (-121, 121, FAR, -FAR):
            self.refused(BadNumber, {"number": number}, read_view, "R.\n..", number, 500)
            self.refused(BadNumber, {"number": number}, read_view, "R.\n..", 120, number)
        self.refused(BadCell, {"cell": (121, 120)}, read_view, "R.\n..", 120, 119)
        self.refused(BadCell, {"cell": (120, 121)}, read_view, "R.\n..", 119, 120)
        self.refused(BadCell, {"cell": (-119, 121)}, read_view, "R.\n..", -120, 120)
        self.same(fields(read_view("R.\nxo", 119, 119)), ((119, 120), ((119, 119),), (), ((120, 119),)))
        self.refused(BadCell, {"cell": (360, -120)}, read_view, "." * 481, -120, -120)


class EqualTest(PlayCase):
    def test_equal_views(self):
        first, second = read_view("Rx#o", 0, 0), read_view("Rx#o", 0, 0)
        self.assertIs(first == second, True)
        self.assertIs(first != second, False)
        self.assertIs(read_view("Rx#o.", 0, 0) == first, True)
        for text, west in ((".x#o", 0), ("R.#o", 0), ("RX#o", 0), ("Rx.o", 0), ("Rx#.", 0), ("Rx#o", 1), ("xR#o", 0),
                           ("Rx#o", 2), ("Rx#x", 0)):
            self.assertIs(read_view(text, west, 0) == first, False)
            self.assertIs(read_view(text, west, 0) != first, True)

    def test_other_kinds(self):
        shown = read_view("Rx#o", 0, 0)
        for other in (None, 0, "Rx#o", (), fields(shown), [], {}, Region(), BankRunner(), View):
            self.assertIs(shown == other, False)
            self.assertIs(shown != other, True)

    def test_lists_are_copied(self):
        lists = [[(0, 0)], [(1, 0)], [(2, 0)]]
        shown = View(None, *lists)
        for cells in lists:
            cells.append((9, 9))
        self.same(fields(shown), (None, ((0, 0),), ((1, 0),), ((2, 0),)))


if __name__ == "__main__":
    unittest.main()
