import unittest

from support import FAR, PlayCase, scattered
from test_breakers import state

from neverpenned.breakers import PenBreaker
from neverpenned.errors import BadNumber, NothingToUndo, TooMany
from neverpenned.strikejudge import judge_strikes
from neverpenned.strolls import stroll

AROUND = ((1, 0), (1, 1), (0, 1), (-1, 1), (-1, 0), (-1, -1), (0, -1), (1, -1))


def plain_stroll(breaker, wishes, most):
    """The cells and the new strikes, by the words of the document; the breaker is played on."""
    cells, strikes, moves = [breaker.cell], [], 0
    while breaker.phase != "penned" and moves < most:
        if breaker.phase == "strike":
            strikes.append(breaker.strike())
        if breaker.phase == "move":
            at = wishes[moves % len(wishes)] if wishes else 0
            x, y = breaker.cell
            for k in range(8):
                a, b = AROUND[(at + k) % 8]
                if not breaker.is_struck((x + a, y + b)):
                    breaker.move((x + a, y + b))
                    break
            cells.append(breaker.cell)
            moves += 1
    return cells, strikes


def begun(half, start, turns, phase):
    """A breaker of a prepared pen after some turns to the west; then it has struck once more, or not."""
    breaker = PenBreaker(half, start, prepared=True)
    for _ in range(turns):
        breaker.strike()
        breaker.move((breaker.cell[0] - 1, breaker.cell[1]))
    if phase == "move":
        breaker.strike()
    return breaker


class StrollTest(PlayCase):
    def test_strolls(self):
        lists = [[], [0], [7], [3, 3, 1], [2, 6], list(range(8)), scattered(50, 8), scattered(1000, 8, seed=4)]
        for at, wishes in enumerate(lists):
            for half, start, turns, phase in ((10, (0, 0), 0, "strike"), (12, (-3, 2), 3, "move"), (11, (4, 4), 5, "strike")):
                for most in (0, 1, 2, 7, 60 + at, 18000):
                    breaker, other = begun(half, start, turns, phase), begun(half, start, turns, phase)
                    kept, given = state(breaker), list(wishes)
                    told = stroll(breaker, given, most)
                    cells, strikes = plain_stroll(other, wishes, most)
                    self.same(told[:2], (cells, strikes))
                    self.same((len(told), type(told), type(told[2])), (3, tuple, PenBreaker))
                    self.same(state(told[2]), state(other))
                    self.same(state(breaker), kept)
                    self.same(given, wishes)

    def test_the_first_free_cell_in_cyclic_order(self):
        breaker = PenBreaker(10, prepared=True)
        for at, (x, y) in enumerate(AROUND):
            self.same(stroll(breaker, [at], 1)[0], [(0, 0), (x, y)])
        # A runner at a held wall finds the cells of the wall struck, and goes on with the next ones.
        north = begun(10, (0, 4), 0, "strike")
        cells, _, after = stroll(north, [2], 5)
        self.same(cells, [(0, 4), (0, 5), (0, 6), (0, 7), (0, 8), (0, 9)])
        for wish, wanted in ((0, (1, 9)), (1, (-1, 9)), (2, (-1, 9)), (3, (-1, 9)), (4, (-1, 9)), (7, (1, 8))):
            self.same(stroll(after, [wish], 1)[0], [(0, 9), wanted])

    def test_the_wishes_begin_again_in_each_call(self):
        breaker = PenBreaker(10, prepared=True)
        cells, _, after = stroll(breaker, [0, 2, 4], 2)
        self.same(cells, [(0, 0), (1, 0), (1, 1)])
        self.same(stroll(after, [0, 2, 4], 4)[0], [(1, 1), (2, 1), (2, 2), (1, 2), (2, 2)])
        self.same(stroll(after, (0, 2, 4), 0)[:2], ([(1, 1)], []))
        self.same(stroll(after, [], 3)[0], [(1, 1), (2, 1), (3, 1), (4, 1)])

    def test_the_phase_at_the_beginning(self):
        breaker = PenBreaker(10, prepared=True)
        cells, strikes, after = stroll(breaker, [4], 2)
        self.same((len(cells), len(strikes), after.phase), (3, 2, "strike"))
        breaker.strike()
        cells, strikes, after = stroll(breaker, [4], 2)
        self.same((cells, len(strikes), after.phase), ([(0, 0), (-1, 0), (-2, 0)], 1, "strike"))
        self.same(stroll(breaker, [4], 0)[2].phase, "move")
        self.same(stroll(PenBreaker(), [4], 0)[2].struck, ())

    def test_a_penned_runner(self):
        cells, strikes, after = stroll(PenBreaker(10, prepared=True), [1, 5, 0], 18000)
        self.same((after.phase, len(cells), after.struck, cells[-1]), ("penned", len(strikes), tuple(strikes), after.cell))
        kept = state(after)
        told = stroll(after, [1], 18000)
        self.same(told[:2], ([after.cell], []))
        self.same(state(told[2]), kept)
        told[2].undo()
        self.same((state(after), told[2].phase), (kept, "strike"))

    def test_the_copy_goes_back_to_its_beginning(self):
        breaker = begun(11, (2, 1), 4, "move")
        cells, strikes, after = stroll(breaker, [6, 1], 9)
        for _ in range(9 + len(strikes)):
            after.undo()
        self.same(state(after), state(breaker))
        for _ in range(9):
            after.undo()
        self.same(state(after), state(PenBreaker(11, (2, 1), prepared=True)))
        self.refused(NothingToUndo, {}, after.undo)
        cells.clear()
        strikes.clear()
        self.same(len(stroll(breaker, [6, 1], 9)[0]), 10)


class LongStrollTest(PlayCase):
    def test_facts(self):
        for half, prepared, wishes in ((10, True, [0]), (10, True, scattered(900, 8, seed=2)), (17, True, [2, 2, 1]),
                                       (24, True, [5, 6, 6]), (65, False, [3, 4]), (65, True, [7])):
            breaker = PenBreaker(half, prepared=prepared)
            cells, strikes, after = stroll(breaker, wishes, 18000)
            self.assertEqual(after.phase, "penned")
            self.assertTrue(judge_strikes(half, prepared, cells, strikes))
            self.assertLessEqual(len(strikes), (2 * half + 1) ** 2 - 1 - (60 if prepared else 0))
            self.assertEqual(len(set(strikes)), len(strikes))


class RefusedStrollTest(PlayCase):
    def test_the_wishes(self):
        breaker = PenBreaker(10, prepared=True)
        self.refused(TooMany, {"most": 1000}, stroll, breaker, [9] * 1001, -1)
        self.refused(TooMany, {"most": 1000}, stroll, breaker, [0] * 1001, 5)
        for number in (-1, 8, FAR, -FAR):
            self.refused(BadNumber, {"number": number}, stroll, breaker, [0, 7, number, 9], 18001)
        self.same(len(stroll(breaker, [0] * 1000, 5)[0]), 6)

    def test_the_number_of_moves(self):
        breaker = PenBreaker(10, prepared=True)
        for most in (-1, 18001, FAR, -FAR):
            self.refused(BadNumber, {"number": most}, stroll, breaker, [0, 7], most)
        self.same(state(breaker), state(PenBreaker(10, prepared=True)))


if __name__ == "__main__":
    unittest.main()
