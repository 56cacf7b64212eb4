import unittest

from support import FAR, PlayCase
from test_breakers import state

from neverpenned.breakers import PenBreaker
from neverpenned.errors import BadText, TooMany
from neverpenned.penviews import pen_view, read_pen_view
from neverpenned.strolls import stroll
from neverpenned.walls import corner_cells


def plain_view(breaker):
    """The lines of the view, by the words of the document."""
    half = breaker.half
    prepared = corner_cells(half) if breaker.prepared else []
    lines = []
    for y in range(half, -half - 1, -1):
        line = ""
        for x in range(-half, half + 1):
            line += ("R" if (x, y) == breaker.cell else "P" if (x, y) in prepared else "x" if (x, y) in breaker.struck
                     else "+" if max(abs(x), abs(y)) == half else ".")
        lines.append(line)
    return lines


def new_lines(half):
    """The lines of a pen in which nothing is struck, without a runner."""
    width = 2 * half + 1
    return ["+" * width, *["+" + "." * (width - 2) + "+"] * (width - 2), "+" * width]


def some_breakers():
    """Pen breakers after strolls of several lengths."""
    for half, start, prepared in ((10, (0, 0), True), (11, (-2, 4), True), (30, (5, 5), True), (65, (0, 0), False),
                                  (65, (59, -59), True)):
        breaker = PenBreaker(half, start, prepared=prepared)
        for most in (0, 1, 5, 60):
            yield stroll(breaker, [most % 8, 2, 5], most)[2]
        after = stroll(breaker, [3, 3, 0], 40)[2]
        after.strike()
        yield after


class PenViewTest(PlayCase):
    def test_games(self):
        signs = set()
        for breaker in some_breakers():
            kept = state(breaker)
            text = pen_view(breaker)
            signs.update(text)
            self.same(text.split("\n"), plain_view(breaker))
            self.same(state(breaker), kept)
        self.assertEqual(signs, set("RPx+.\n"))

    def test_new_pens(self):
        lines = new_lines(65)
        lines[65] = "+" + "." * 64 + "R" + "." * 64 + "+"
        self.same(pen_view(PenBreaker()), "\n".join(lines))
        lines = pen_view(PenBreaker(10, (4, -3), prepared=True)).split("\n")
        self.same((len(lines), lines[0], lines[20]), (21, "P" * 8 + "+" * 5 + "P" * 8, "P" * 8 + "+" * 5 + "P" * 8))
        self.same((lines[7], lines[8], lines[12], lines[13]),
                  ("P" + "." * 19 + "P", "+" + "." * 19 + "+", "+" + "." * 19 + "+", "P" + "." * 13 + "R" + "." * 5 + "P"))

    def test_penned_runners_and_turns_taken_back(self):
        breaker = stroll(PenBreaker(10, prepared=True), [1, 5, 0], 18000)[2]
        self.same((breaker.phase, pen_view(breaker).split("\n")), ("penned", plain_view(breaker)))
        for _ in range(200):
            breaker.undo()
        self.same(pen_view(breaker).split("\n"), plain_view(breaker))


class ReadPenViewTest(PlayCase):
    def test_views_are_read_back(self):
        for breaker in some_breakers():
            prepared = tuple(corner_cells(breaker.half)) if breaker.prepared else ()
            self.same(read_pen_view(pen_view(breaker)),
                      (breaker.half, breaker.cell, prepared, tuple(sorted(breaker.struck))))

    def test_texts(self):
        for half in (10, 11, 64, 65):
            self.same(read_pen_view("\n".join(new_lines(half))), (half, None, (), ()))
        lines = new_lines(10)
        lines[0] = "x" + lines[0][1:-1] + "P"
        lines[20] = "R" + lines[20][1:-1] + "x"
        lines[9] = "+P" + lines[9][2:-2] + "xP"
        self.same(read_pen_view("\n".join(lines)),
                  (10, (-10, -10), ((-9, 1), (10, 1), (10, 10)), ((-10, 10), (9, 1), (10, -10))))

    def bad(self, line, lines):
        self.refused(BadText, {"line": line}, read_pen_view, "\n".join(lines))

    def test_the_number_of_lines(self):
        for many in (1, 2, 19, 20, 22, 24, 130, 132, 133, 19000):
            self.bad(1, [""] * many)
        for many in (20, 22, 24, 64, 130, 132):
            self.bad(1, ["+" * many, *["+" + "." * (many - 2) + "+"] * (many - 2), "+" * many])
        self.bad(1, new_lines(9))
        self.bad(1, new_lines(66))
        self.bad(1, new_lines(10) + [""])
        self.bad(1, new_lines(10)[:-1])
        self.bad(1, new_lines(65)[:-1])
        self.bad(1, new_lines(65) + [""])
        self.bad(1, ["?" * 21] * 22)

    def test_bad_lines(self):
        lines = new_lines(10)
        inside, outer = lines[5], lines[0]
        for at, line in ((0, outer), (20, outer), (1, inside), (10, inside), (19, inside)):
            for other in ("", line[:-1], line + "+", line + ".", line + " ", line[1:] + "?", line[:-1] + "r", "#" + line[1:],
                          line.replace("+", ".", 1), line[:-1] + ".", line[:10] + ("." if line == outer else "+") + line[11:],
                          "R" + line[1:-1] + "R", line[:5] + "RR" + line[7:], line[:4] + "\t" + line[5:], line[:-1] + "\r"):
                self.bad(at + 1, [*lines[:at], other, *lines[at + 1:]])
                self.bad(at + 1, [*lines[:at], other, *["?"] * (20 - at)])
        self.bad(2, [lines[0], outer, *lines[2:]])
        self.bad(20, [*lines[:19], outer, lines[20]])
        self.bad(1, [inside, *lines[1:]])
        self.bad(21, [*lines[:20], inside])
        # A second runner, in the same line or in a later one.
        second = [*lines[:7], inside[:3] + "R" + inside[4:], *lines[8:]]
        self.same(read_pen_view("\n".join(second))[1], (-7, 3))
        self.bad(16, [*second[:15], inside[:3] + "R" + inside[4:], *second[16:]])
        self.bad(8, [*second[:7], inside[:3] + "RR" + inside[5:], *second[8:]])
        self.bad(1, ["R" * 21, *["R" * 21] * 20])
        self.bad(21, [*second[:20], "+" * 20 + "R"])

    def test_the_length(self):
        self.refused(TooMany, {"most": 20000}, read_pen_view, "x" * 20001)
        self.refused(BadText, {"line": 1}, read_pen_view, "x" * 20000)
        lines = new_lines(65)
        most = "\n".join([*lines[:-1], "+" * (131 + 20000 - 17291)])
        self.same(len(most), 20000)
        self.refused(BadText, {"line": 131}, read_pen_view, most)
        self.refused(TooMany, {"most": 20000}, read_pen_view, most + "+")
        self.refused(TooMany, {"most": 20000}, read_pen_view, "\n" * 20001)

    def test_only_cells_of_the_pen_are_told(self):
        half, cell, prepared, struck = read_pen_view(pen_view(PenBreaker(65, (-59, 59), prepared=True)))
        self.same((half, cell, len(prepared), struck), (65, (-59, 59), 60, ()))
        self.assertTrue(all(max(map(abs, cell)) == 65 < FAR for cell in prepared))


if __name__ == "__main__":
    unittest.main()
