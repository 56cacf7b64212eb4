import unittest

from support import FAR, PlayCase, scattered
from test_breakers import cornering, hugging
from test_pens import wanted_lacks

from neverpenned.breakers import PenBreaker
from neverpenned.cells import touching
from neverpenned.errors import BadCell, BadNumber, NotPrepared, TooMany
from neverpenned.strikejudge import judge_strikes
from neverpenned.walls import corner_cells

FAR_CELLS = ((121, 0), (0, 121), (-121, 0), (0, -121), (FAR, 0), (0, -FAR))


def played(half, prepared, choose, start=(0, 0), most=10 ** 6):
    """The cells of the runner and the strikes of a game against the pen breaker."""
    breaker = PenBreaker(half, start, prepared=prepared)
    cells, turn = [start], 0
    while turn < most:
        breaker.strike()
        free = [cell for cell in touching(breaker.cell) if not breaker.is_struck(cell)]
        if not free:
            break
        breaker.move(choose(turn, free, breaker.cell))
        cells.append(breaker.cell)
        turn += 1
    return cells, list(breaker.struck)


def right(half, prepared, cells, strikes):
    """What judge_strikes returns, condition by condition, by the words of the document."""
    if not cells or len(cells) not in (len(strikes), len(strikes) + 1):
        return False
    most = half - 6 if prepared else 0
    if max(map(abs, cells[0])) > most or any(max(map(abs, cell)) >= half for cell in cells):
        return False
    before = corner_cells(half) if prepared else []
    for at, strike in enumerate(strikes):
        struck = [*before, *strikes[:at]]
        if max(map(abs, strike)) > half or strike in struck or strike == cells[at]:
            return False
        if wanted_lacks(half, cells[at], [*struck, strike]) != []:
            return False
    return all(cell in touching(cells[at]) and cell not in before and cell not in strikes[:at + 1]
               for at, cell in enumerate(cells[1:]))


class RightGamesTest(PlayCase):
    def test_games_until_the_runner_is_penned(self):
        for half in (10, 11, 20):
            for choose in (cornering, hugging(1), hugging(2)):
                for start in ((0, 0), (half - 6, 6 - half)):
                    cells, strikes = played(half, True, choose, start)
                    self.same(judge_strikes(half, True, cells, strikes), True)
                    self.same(judge_strikes(half, True, tuple(cells), tuple(strikes)), True)

    def test_a_game_in_the_greatest_pen(self):
        cells, strikes = played(65, False, lambda turn, free, cell: free[turn * turn // 7 % len(free)])
        self.assertGreater(len(strikes), 16000)
        self.same(judge_strikes(65, False, cells, strikes), True)
        self.same(judge_strikes(65, False, cells, [*strikes[:-1], strikes[0]]), False)
        # The cells of the preparation would be struck twice.
        self.same(judge_strikes(65, True, cells, strikes), False)

    def test_games_that_stop_at_any_turn(self):
        cells, strikes = played(12, True, hugging(0), most=120)
        for turn in range(121):
            self.same(judge_strikes(12, True, cells[:turn + 1], strikes[:turn]), True)
            self.same(judge_strikes(12, True, cells[:turn], strikes[:turn]), turn > 0)

    def test_a_runner_alone(self):
        self.same(judge_strikes(10, True, [(0, 0)], []), True)
        self.same(judge_strikes(65, False, [(0, 0)], []), True)
        self.same(judge_strikes(65, True, [(59, -59)], []), True)

    def test_strikes_that_the_pen_breaker_would_not_make(self):
        # Any cell of the pen will do, as long as the pen is held.
        self.same(judge_strikes(10, True, [(0, 0), (1, 1), (0, 1)], [(3, 3), (0, 0), (-9, 9)]), True)
        self.same(judge_strikes(10, True, [(0, 4), (0, 5)], [(3, 3), (0, 10)]), True)
        self.same(judge_strikes(10, True, [(0, 4), (0, 5)], [(0, 10), (3, 3)]), True)
        self.same(judge_strikes(10, True, [(0, 4), (0, 5)], [(3, 3), (0, 9)]), False)


class WrongGamesTest(PlayCase):
    def judge(self, half, prepared, cells, strikes, wanted):
        self.same(judge_strikes(half, prepared, cells, strikes), wanted)
        self.same(right(half, prepared, cells, strikes), wanted)

    def test_the_lengths_of_the_lists(self):
        strikes = [(3, 3), (4, 4), (5, 5)]
        cells = [(0, 0), (0, 1), (0, 0), (0, 1), (0, 0)]
        for many in range(6):
            for other in range(4):
                self.judge(10, True, cells[:many], strikes[:other], many > 0 and many - other in (0, 1))
        self.judge(65, False, [], [], False)

    def test_the_first_cell(self):
        for start in ((0, 0), (4, 4), (-4, 4), (-4, -4), (4, 0)):
            self.judge(10, True, [start], [], True)
        for start in ((5, 0), (0, -5), (-5, 4), (9, 9), (10, 0), (11, 0), (120, 120)):
            self.judge(10, True, [start], [], False)
            self.judge(10, True, [start], [(3, 3)], False)
        for start in ((1, 0), (0, -1), (5, 5), (65, 0)):
            self.judge(65, False, [start], [], False)
        self.judge(65, False, [(0, 0)], [(1, 0)], True)

    def test_strikes(self):
        cells = [(0, 0), (0, 1), (1, 1)]
        self.judge(10, True, cells, [(3, 3), (4, 4), (-10, 0)], True)
        # Twice, by the preparation, under the runner, and outside of the pen.
        for strike in ((3, 3), (4, 4), (10, 10), (-3, 10), (1, 1), (11, 0), (0, -11), (120, -120), (-11, 11)):
            self.judge(10, True, cells, [(3, 3), (4, 4), strike], False)
            self.judge(10, True, [*cells, (0, 0)], [(3, 3), (4, 4), strike], False)
        # The runner may have left the cell, but not come back to it.
        self.judge(10, True, cells, [(3, 3), (0, 0), (0, 1)], True)
        self.judge(10, True, cells, [(3, 3), (1, 1)], False)
        self.judge(10, True, cells, [(1, 1), (3, 3)], False)
        self.judge(10, True, cells, [(0, 0), (3, 3)], False)
        self.judge(10, True, cells[:2], [(0, 1), (3, 3)], False)
        self.judge(65, False, [(0, 0), (0, 1)], [(65, 65), (64, 64)], True)
        self.judge(65, True, [(0, 0), (0, 1)], [(65, 65), (64, 64)], False)

    def test_moves(self):
        strikes = [(3, 3), (5, 5)]
        for cell in touching((0, 0)):
            self.judge(10, True, [(0, 0), cell], strikes, True)
            self.judge(10, True, [(0, 0), cell], strikes[:1], True)
        for cell in ((0, 0), (2, 0), (0, -2), (1, 2), (9, 9), (10, 10), (120, 120)):
            self.judge(10, True, [(0, 0), cell], strikes, False)
            self.judge(10, True, [(0, 0), cell], strikes[:1], False)
            self.judge(10, True, [(0, 0), (0, 1), cell], strikes, cell in ((0, 0), (1, 2)))

    def test_a_runner_that_leaves_the_inside(self):
        path = [(0, y) for y in range(4, 12)]
        strikes = [(3, 3), (0, 10), (1, 10), (-1, 10), (5, 5), (6, 6), (7, 7)]
        self.judge(10, True, path[:6], strikes[:6], True)
        self.judge(10, True, path[:7], strikes[:6], False)
        # Along the wall, where a cell that is free is a wall cell.
        self.judge(10, True, [*path[:6], (2, 10)], strikes[:6], False)

    def test_a_pen_that_is_not_held(self):
        path = [(0, y) for y in range(4, 8)]
        self.judge(10, True, path, [(3, 3), (0, 10), (1, 10), (-1, 10)], True)
        self.judge(10, True, path, [(0, 10), (1, 10), (-1, 10), (3, 3)], True)
        self.judge(10, True, path, [(3, 3), (0, 10), (1, 10), (2, 10)], False)
        self.judge(10, True, path, [(3, 3), (1, 10), (0, 10), (-1, 10)], False)
        self.judge(10, True, path, [(3, 3), (0, 10), (2, 10), (1, 10)], False)
        # The last move leads to a cell for which the pen need not be held yet.
        self.judge(10, True, path, [(3, 3), (0, 10), (1, 10)], True)

    def test_games_with_one_change(self):
        numbers, wrong = scattered(6000, 2 ** 20, seed=41), 0
        for at in range(200):
            choose = (hugging(at % 4), cornering)[at % 5 == 4]
            start = ((0, 0), (4, -3), (-4, 4), (2, 4))[at // 4 % 4]
            cells, strikes = played(10, True, choose, start, most=12 + at % 30)
            told = numbers[at * 30:at * 30 + 8]
            part = cells if told[0] % 2 else strikes
            spot, other = told[1] % len(part), told[2] % len(part)
            kind = told[3] % 5
            if kind == 0:
                part[spot] = touching(part[spot])[told[4] % 8]
            elif kind == 1:
                part[spot], part[other] = part[other], part[spot]
            elif kind == 2:
                del part[spot]
            elif kind == 3:
                part[spot] = (told[4] % 25 - 12, told[5] % 25 - 12)
            else:
                del cells[spot + 1:], strikes[spot + told[4] % 2:]
            wanted = right(10, True, cells, strikes)
            self.same(judge_strikes(10, True, cells, strikes), wanted)
            wrong += not wanted
        self.assertTrue(50 < wrong < 180, wrong)


class WrongArgumentsTest(PlayCase):
    def test_the_order_of_the_checks(self):
        many = [(FAR, 0)] * 17162
        for half in (9, 66, FAR, -FAR):
            for prepared in (True, False):
                self.refused(BadNumber, {"number": half}, judge_strikes, half, prepared, many, many)
        self.refused(TooMany, {"most": 17161}, judge_strikes, 10, False, many, [(0, FAR)])
        self.refused(TooMany, {"most": 17161}, judge_strikes, 10, False, [(0, 0)] * 17162, many)
        for cell in FAR_CELLS:
            self.refused(BadCell, {"cell": cell}, judge_strikes, 10, False, [(0, 0), cell, (500, 500)], many)
            self.refused(BadCell, {"cell": cell}, judge_strikes, 10, False, [(0, 0)], [(0, 0), cell, (500, 500)])
        self.refused(TooMany, {"most": 17161}, judge_strikes, 10, False, [], many)
        for half in (10, 64):
            self.refused(NotPrepared, {"half": half}, judge_strikes, half, False, [], [])
            self.refused(NotPrepared, {"half": half}, judge_strikes, half, False, [(100, 100)], [(0, 0)])
            self.same(judge_strikes(half, True, [], []), False)
        self.same(judge_strikes(65, False, [], []), False)

    def test_the_length(self):
        most = [(0, 0)] * 17161
        self.same(judge_strikes(65, True, most, most), False)
        self.same(judge_strikes(65, False, most, most[1:]), False)

    def test_nothing_is_changed(self):
        cells, strikes = [(0, 0), (0, 1)], [(3, 3), (4, 4)]
        self.same(judge_strikes(10, True, cells, strikes), True)
        self.same((cells, strikes), ([(0, 0), (0, 1)], [(3, 3), (4, 4)]))


if __name__ == "__main__":
    unittest.main()
