import unittest

from games import games, plain_image
from support import PlayCase

from neverpenned.errors import AlreadyStruck, BadDeed, BadText, NothingToUndo, Occupied, TooMany
from neverpenned.runners import BankRunner
from neverpenned.runnertexts import read_runner, runner_text

EXAMPLE = [(0, 2), (1, 1), (0, 4)]
SHORE = [(-1 - n % 6, n // 6) for n in range(40)]


def text_of(code, cells):
    return "\n".join([f"code {code}", *[f"{x},{y}" for x, y in cells]])


def state(runner):
    return (runner.code, runner.cell, runner.struck, runner.visited, runner.marks,
            [runner.bank_at(turn).extra for turn in range(runner.turn + 1)], runner.trail())


class RunnerTextTest(PlayCase):
    def test_texts(self):
        self.same(runner_text(BankRunner.played(EXAMPLE)), "code 0\n0,2\n1,1\n0,4")
        for code in range(8):
            self.same(runner_text(BankRunner(code)), f"code {code}")
        runner = BankRunner.played([(-3, 14), (120, -120), (-120, 0)], 6)
        self.same(runner_text(runner), "code 6\n-3,14\n120,-120\n-120,0")

    def test_all_games(self):
        for runner in games():
            text = runner_text(runner)
            self.same(text, text_of(runner.code, runner.struck))
            self.same(state(read_runner(text)), state(runner))

    def test_the_longest_text(self):
        cells = [(-120, -120 + n) for n in range(36)]
        text = runner_text(BankRunner.played(cells))
        self.same(len(text), 6 + sum(len(f"{x},{y}") + 1 for x, y in cells))
        self.same(read_runner(text).struck, tuple(cells))


class ReadRunnerTest(PlayCase):
    def test_runners(self):
        for code in range(8):
            runner = read_runner(f"code {code}")
            self.assertIs(type(runner), BankRunner)
            self.same(state(runner), state(BankRunner(code)))
            cells = [plain_image(code, cell) for cell in EXAMPLE]
            self.same(state(read_runner(text_of(code, cells))), state(BankRunner.played(cells, code)))

    def test_a_runner_that_is_read_goes_back_to_its_beginning(self):
        runner = read_runner("code 3\n5,5\n6,6")
        runner.undo()
        runner.undo()
        self.same(state(runner), state(BankRunner(3)))
        self.refused(NothingToUndo, {}, runner.undo)

    def test_a_wrong_first_line(self):
        for line in ("", "code", "code ", "code 8", "code -1", "code 00", "code 01", "code 1 ", " code 1", "Code 1",
                     "code  1", "code1", "1", "0,0", "code 1,2", "code \u0661", "code +1", "code 1\r"):
            self.refused(BadText, {"line": 1}, read_runner, line)
            self.refused(BadText, {"line": 1}, read_runner, line + "\n0,2\nx")

    def test_wrong_cells(self):
        for line in ("", " ", "0", "0,", ",0", "0,0,0", "0, 2", " 0,2", "0,2 ", "+1,0", "01,0", "-0,1", "1,-0", "1.0,2",
                     "x,y", "121,0", "0,-121", "0,2\r", "0,2\t", "\u0661,0", "1_0,0", "(0,2)", "0 2", "code 1",
                     "0" * 30 + ",0", "000000000000000000000"):
            self.refused(BadText, {"line": 2}, read_runner, "code 0\n" + line)
            self.refused(BadText, {"line": 3}, read_runner, "code 0\n0,2\n" + line + "\n1,1\nx")
        # A newline at the end is followed by one more line, which is empty.
        self.refused(BadText, {"line": 2}, read_runner, "code 0\n")
        self.refused(BadText, {"line": 4}, read_runner, "code 0\n0,2\n1,1\n")
        for sign in ("\r", "\u2028", "\x0b", "\x0c", "\x1c", "\x85"):
            self.refused(BadText, {"line": 2}, read_runner, f"code 0\n0,2{sign}1,1")

    def test_texts_come_before_strikes(self):
        self.refused(BadText, {"line": 4}, read_runner, "code 0\n0,0\n5,5\nx")
        self.refused(BadText, {"line": 40}, read_runner, text_of(0, SHORE[:38]) + "\n")

    def refused_deed(self, line, cause, fields, text):
        """The deed is refused, and the error is raised from that of `strike`."""
        with self.assertRaises(BadDeed) as caught:
            read_runner(text)
        self.assertIs(type(caught.exception), BadDeed)
        self.assertEqual(vars(caught.exception), {"line": line})
        self.assertIs(type(caught.exception.__cause__), cause)
        self.assertEqual(vars(caught.exception.__cause__), fields)

    def test_strikes_that_are_refused(self):
        self.refused_deed(2, Occupied, {"cell": (0, 0)}, "code 0\n0,0\n5,5\n5,5")
        self.refused_deed(3, Occupied, {"cell": (0, 1)}, "code 0\n0,2\n0,1")
        self.refused_deed(5, AlreadyStruck, {"cell": (5, 5)}, "code 7\n5,5\n6,6\n7,7\n5,5\n0,0")
        self.refused_deed(38, TooMany, {"most": 36}, text_of(0, SHORE[:37]))
        self.refused_deed(38, TooMany, {"most": 36}, text_of(0, SHORE[:39]))
        self.refused_deed(38, TooMany, {"most": 36}, text_of(0, [*SHORE[:36], SHORE[0]]))
        self.same(read_runner(text_of(0, SHORE[:36])).turn, 36)

    def test_the_length(self):
        most = "code 0\n" + "0,2\n" * 248 + "x"
        self.same(len(most), 1000)
        self.refused(BadText, {"line": 250}, read_runner, most)
        self.refused(TooMany, {"most": 1000}, read_runner, most + "x")
        self.refused(TooMany, {"most": 1000}, read_runner, "x" * 1001)
        self.refused(BadText, {"line": 1}, read_runner, "x" * 1000)
        self.refused_deed(3, AlreadyStruck, {"cell": (0, 2)}, most[:-2])


if __name__ == "__main__":
    unittest.main()
