import unittest

from games import games, plain_image, plain_own
from support import PlayCase, wanted_count, wanted_growth
from test_runnertexts import SHORE, state

from neverpenned.reports import report, totals
from neverpenned.runners import BankRunner

EXAMPLE = [(0, 2), (1, 1), (0, 4)]
TITLE = "turn strike    landing   growth  count  price passed"


def padded(word, width, left=False):
    return word + " " * (width - len(word)) if left else " " * (width - len(word)) + word


def plain_line(runner, turn):
    """The line of the turn, by the words of the document."""
    own = [plain_own(runner.code, cell) for cell in runner.struck[:turn]]
    extra = runner.bank_at(turn).extra
    growth, count = wanted_growth(extra), wanted_count(extra, own)
    (x, y), (a, b) = runner.struck[turn - 1], runner.visited[turn]
    numbers = [growth, count, growth - 2 * count, runner.marks[turn] - runner.marks[turn - 1]]
    return " ".join([padded(str(turn), 4), padded(f"{x},{y}", 9, True), padded(f"{a},{b}", 9, True),
                     *[padded(str(number), 6) for number in numbers]])


class ReportTest(PlayCase):
    def test_games(self):
        for runner in games():
            kept = state(runner)
            self.same(report(runner).split("\n"), [TITLE, *[plain_line(runner, turn) for turn in range(1, 37)]])
            self.same(state(runner), kept)

    def test_after_each_turn(self):
        for code in range(8):
            runner = BankRunner(code)
            self.same((report(runner), totals(runner)), (TITLE, (0, 0, 0)))
            lines = [TITLE]
            for turn, cell in enumerate(EXAMPLE, start=1):
                runner.strike(plain_image(code, cell))
                lines.append(plain_line(runner, turn))
                self.same(report(runner), "\n".join(lines))
            for _ in EXAMPLE:
                runner.undo()
                lines.pop()
                self.same(report(runner), "\n".join(lines))
            self.same((report(runner), totals(runner)), (TITLE, (0, 0, 0)))

    def test_texts(self):
        self.same(report(BankRunner()), "turn strike    landing   growth  count  price passed")
        self.same(report(BankRunner.played(EXAMPLE)).split("\n"),
                  ["turn strike    landing   growth  count  price passed",
                   "   1 0,2       0,1            2      1      0      2",
                   "   2 1,1       0,3            2      1      0      2",
                   "   3 0,4       1,4            4      2      0      3"])
        lines = report(BankRunner.played([(-120, -120), (120, -120), *SHORE[:34]])).split("\n")
        self.same((lines[1], lines[10][:5], len(lines)), ("   1 -120,-120 0,2            0      0      0      2", "  10 ", 37))
        self.assertEqual({len(line) for line in lines}, {len(TITLE), len(TITLE) + len("-120,-120") - 9})

    def test_no_line_ends_with_a_space(self):
        for runner in games()[::4]:
            self.assertFalse(any(line.endswith(" ") for line in report(runner).split("\n")))


class TotalsTest(PlayCase):
    def test_games(self):
        for runner in games():
            extra = runner.bank_at(36).extra
            own = [plain_own(runner.code, cell) for cell in runner.struck]
            passed = sum(runner.marks[turn] - runner.marks[turn - 1] for turn in range(1, 37))
            self.same(totals(runner), (passed, wanted_growth(extra), wanted_count(extra, own)))

    def test_turns_that_were_taken_back(self):
        runner = BankRunner.played(EXAMPLE)
        self.same(totals(runner), (7, 4, 2))
        runner.undo()
        self.same(totals(runner), (4, 2, 1))
        runner.undo()
        self.same(totals(runner), (2, 2, 1))
        runner.undo()
        self.same(totals(runner), (0, 0, 0))
        self.same(totals(BankRunner.played([(90, 90)])), (2, 0, 0))


if __name__ == "__main__":
    unittest.main()
