import unittest

from support import FAR, PlayCase, scattered
from test_pens import wanted_lacks

from neverpenned.breakers import PenBreaker
from neverpenned.cells import touching
from neverpenned.errors import (AlreadyStruck, BadCell, BadNumber, BadStep, NotPrepared, NothingToUndo, TooNear,
                                WrongPhase)
from neverpenned.walls import corner_cells, is_inside, wall_cells

FAR_CELLS = ((121, 0), (0, 121), (-121, 0), (0, -121), (FAR, 0), (0, -FAR))


def state(breaker):
    """All that a pen breaker tells about itself."""
    rim = [(x, y) for x in range(-66, 67, 3) for y in range(-66, 67, 3)]
    return (breaker.half, breaker.start, breaker.prepared, breaker.cell, breaker.struck, breaker.phase, breaker.reasons,
            [cell for cell in rim if breaker.is_struck(cell)])


def steering(seed):
    """A runner that goes as straight as it can for some turns, and then another way."""
    ways = scattered(600, 8, seed=seed)

    def choose(turn, free, cell):
        x, y = touching((0, 0))[ways[turn // (3 + 4 * seed)]]
        return max(free, key=lambda other: (other[0] * x + other[1] * y, other))
    return choose


def hugging(wall):
    """A runner that goes to the wall as near as it can, and then along it to and fro."""
    x, y = ((0, 1), (-1, 0), (0, -1), (1, 0))[wall]

    def choose(turn, free, cell):
        along = 1 if turn // 37 % 2 else -1
        return max(free, key=lambda other: (other[0] * (3 * x + along * y) + other[1] * (3 * y - along * x), other))
    return choose


def cornering(turn, free, cell):
    """A runner that goes to a corner of the pen, and then around as near to the walls as it can."""
    return max(free, key=lambda other: (sum(map(abs, other)) + (other[0] * cell[1] < other[1] * cell[0]), other))


class BreakerCase(PlayCase):
    def play(self, breaker, choose, most=10 ** 6):
        """Play on, at most so many turns, and check each strike by the words of the document."""
        half, prepared = breaker.half, breaker.prepared
        corners = corner_cells(half)
        order = [*corners, *[cell for cell in wall_cells(half) if cell not in corners],
                 *[(x, y) for x in range(1 - half, half) for y in range(1 - half, half)]]
        words = ["corner"] * 60 + ["wall"] * (8 * half - 60) + ["inside"] * len(order)
        struck = {cell: True for cell in [*(corners if prepared else []), *breaker.struck]}
        path, at, turn = [breaker.cell], 0, 0
        while turn < most:
            lacks = wanted_lacks(half, breaker.cell, struck)
            self.assertTrue(lacks == [] or len(lacks) == 1, lacks)
            while order[at] in struck:
                at += 1
            spot = next(k for k in range(at, len(order)) if order[k] not in struck and order[k] != breaker.cell)
            wanted, word = (lacks[0], "lack") if lacks else (order[spot], words[spot])
            self.assertNotIn(wanted, struck)
            told = breaker.strike()
            self.assertEqual(told, wanted)
            struck[told] = True
            self.assertEqual(wanted_lacks(half, breaker.cell, struck), [])
            self.assertEqual(breaker.struck[-1], told)
            free = [cell for cell in touching(breaker.cell) if cell not in struck]
            self.assertEqual(breaker.phase, "move" if free else "penned")
            if turn % 64 == 0 or not free:
                self.same((breaker.reasons[-1], len(breaker.reasons)), (word, len(breaker.struck)))
            if not free:
                break
            breaker.move(choose(turn, free, breaker.cell))
            path.append(breaker.cell)
            self.assertTrue(max(map(abs, breaker.cell)) < half and breaker.phase == "strike")
            turn += 1
        return path


class NewBreakerTest(PlayCase):
    def test_fields(self):
        for breaker in (PenBreaker(), PenBreaker(65), PenBreaker(65, (0, 0)),
                        PenBreaker(half=65, start=(0, 0), prepared=False)):
            self.same(state(breaker)[:7], (65, (0, 0), False, (0, 0), (), "strike", ()))
            self.same([breaker.is_struck(cell) for cell in ((-65, -65), (0, 65), (0, 0), (120, 120))], [False] * 4)
        breaker = PenBreaker(12, (6, -5), prepared=True)
        self.same(state(breaker)[:7], (12, (6, -5), True, (6, -5), (), "strike", ()))

    def test_the_preparation(self):
        for half in (10, 11, 65):
            breaker = PenBreaker(half, prepared=True)
            corners = corner_cells(half)
            for cell in [(x, y) for x in range(-half - 1, half + 2) for y in range(-half - 1, half + 2)]:
                self.assertIs(breaker.is_struck(cell), cell in corners)
            self.same((breaker.struck, breaker.reasons), ((), ()))

    def test_where_the_runner_may_start(self):
        for half in (10, 11, 12, 64, 65):
            most = half - 6
            for start in ((0, 0), (most, most), (-most, most), (most, -most), (-most, -most), (0, -most)):
                self.same(PenBreaker(half, start, prepared=True).cell, start)
            for start in ((most + 1, 0), (0, -most - 1), (-most - 1, most), (most, most + 1), (half, 0), (half + 1, 0),
                          (120, 120)):
                self.refused(TooNear, {"cell": start}, PenBreaker, half, start, prepared=True)
        for start in ((1, 0), (0, -1), (59, 59), (65, 0), (-120, 120)):
            self.refused(TooNear, {"cell": start}, PenBreaker, 65, start)
            self.refused(TooNear, {"cell": start}, PenBreaker, 65, start, prepared=False)

    def test_the_order_of_the_checks(self):
        for half in (9, 66, 0, FAR, -FAR):
            self.refused(BadNumber, {"number": half}, PenBreaker, half, (FAR, 0))
            self.refused(BadNumber, {"number": half}, PenBreaker, half, (FAR, 0), prepared=True)
        for cell in FAR_CELLS:
            self.refused(BadCell, {"cell": cell}, PenBreaker, 10, cell)
            self.refused(BadCell, {"cell": cell}, PenBreaker, 65, cell, prepared=True)
        for half in (10, 11, 64):
            self.refused(NotPrepared, {"half": half}, PenBreaker, half)
            self.refused(NotPrepared, {"half": half}, PenBreaker, half, (100, 100), prepared=False)


class StrikesTest(BreakerCase):
    def test_the_example_of_the_document(self):
        breaker = PenBreaker(10, prepared=True)
        self.same(breaker.strike(), (-10, -2))
        self.same(breaker.move((0, 1)), None)
        self.same([breaker.strike(), breaker.reasons, breaker.phase], [(-10, -1), ("wall", "wall"), "move"])
        self.same((breaker.cell, breaker.start, breaker.struck), ((0, 1), (0, 0), ((-10, -2), (-10, -1))))

    def test_the_first_strikes_without_preparation(self):
        breaker = PenBreaker()
        cells = []
        for turn in range(70):
            cells.append(breaker.strike())
            breaker.move((turn % 2 * 2 - 1 if breaker.cell == (0, 0) else 0, 0))
        outer = [cell for cell in wall_cells(65) if cell not in corner_cells(65)]
        self.same(cells, [*corner_cells(65), *outer[:10]])
        self.same(breaker.reasons, ("corner",) * 60 + ("wall",) * 10)

    def test_a_wall_that_lacks(self):
        # Straight to the northern wall: at the levels 5, 4 and 3 one cell lacks each time.
        breaker = PenBreaker(10, (0, 4), prepared=True)
        for y in (5, 6, 7, 8, 9):
            breaker.strike()
            breaker.move((0, y))
        breaker.strike()
        self.same(breaker.struck, ((-10, -2), (0, 10), (1, 10), (-1, 10), (-10, -1), (-10, 0)))
        self.same(breaker.reasons, ("wall", "lack", "lack", "lack", "wall", "wall"))

    def test_a_runner_that_goes_straight_to_a_corner(self):
        # It cannot come near a wall before all corner cells are struck.
        breaker = PenBreaker()
        self.play(breaker, lambda turn, free, cell: max(free, key=lambda other: other[0] + other[1]), 200)
        self.same(breaker.reasons[:60], ("corner",) * 60)

    def test_small_pens_until_the_runner_is_penned(self):
        longest = 0
        for half in (10, 11, 13):
            runners = [cornering, *map(hugging, range(4)), *map(steering, range(8))]
            for at, choose in enumerate(runners):
                most = half - 6
                start = ((0, 0), (most, most), (-most, 0), (1 - most, -most))[at % 4]
                breaker = PenBreaker(half, start, prepared=True)
                path = self.play(breaker, choose)
                self.same(breaker.phase, "penned")
                self.assertEqual((path[0], len(path)), (start, len(breaker.struck)))
                self.assertLessEqual(len(breaker.struck), (2 * half + 1) ** 2 - 61)
                self.assertEqual(len(set(breaker.struck)), len(breaker.struck))
                self.same(set(breaker.reasons) <= {"lack", "wall", "inside"}, True)
                self.same([word for word in breaker.reasons if word != "lack"],
                          sorted([word for word in breaker.reasons if word != "lack"], reverse=True))
                longest = max(longest, len(breaker.struck) - (2 * half + 1) ** 2 + 61)
        self.assertEqual(longest, 0)

    def test_the_greatest_pen(self):
        for choose in (cornering, hugging(0), hugging(3)):
            breaker = PenBreaker()
            self.play(breaker, choose, 700)
            self.same(breaker.reasons[:60].count("corner"), 60)
            self.assertTrue(choose == cornering or "lack" in breaker.reasons)

    def test_until_the_runner_is_penned_in_the_greatest_pen(self):
        breaker = PenBreaker()
        turn = 0
        while breaker.phase != "penned":
            breaker.strike()
            free = [cell for cell in touching(breaker.cell) if not breaker.is_struck(cell)]
            if free:
                breaker.move(free[turn * turn // 7 % len(free)])
                self.assertTrue(is_inside(65, breaker.cell))
            turn += 1
        self.assertLessEqual(len(breaker.struck), 131 ** 2 - 1)
        self.assertEqual(len(set(breaker.struck)), len(breaker.struck))
        self.assertEqual(breaker.reasons.count("corner"), 60)

    def test_the_cell_of_the_runner_is_passed_over(self):
        # The runner goes to and fro between two cells, which the breaker comes to one after the other. If the runner
        # is on the first of them when its turn comes, the second one is struck before it.
        first, second = (-4, -4), (-4, -3)
        ways = {first: second, second: first}
        found = []
        for start in (first, second):
            breaker = PenBreaker(10, start, prepared=True)
            self.play(breaker, lambda turn, free, cell: ways[cell] if ways.get(cell) in free else free[0])
            found.append(breaker.struck.index(second) - breaker.struck.index(first))
        self.same(sorted(found), [-1, 1])

    def test_all_ways_of_the_first_moves_near_a_wall(self):
        """Each way of four moves from a cell of level 6 is tried; wherever the runner goes, the pen is held."""
        breaker = PenBreaker(10, (4, 4), prepared=True)
        breaker.strike()

        def go(depth):
            for cell in touching(breaker.cell):
                if not breaker.is_struck(cell):
                    breaker.move(cell)
                    struck = [*corner_cells(10), *breaker.struck]
                    self.assertTrue(is_inside(10, cell))
                    self.assertIn(len(wanted_lacks(10, cell, struck)), (0, 1))
                    told = breaker.strike()
                    self.assertEqual(wanted_lacks(10, cell, [*struck, told]), [])
                    if depth > 1:
                        go(depth - 1)
                    breaker.undo()
                    breaker.undo()
        go(4)
        self.same((breaker.cell, len(breaker.struck), breaker.phase), ((4, 4), 1, "move"))


class MovesTest(PlayCase):
    def test_wrong_phases(self):
        breaker = PenBreaker(10, prepared=True)
        kept = state(breaker)
        for cell in ((1, 0), (FAR, 0), (7, 7), (10, 10)):
            self.refused(WrongPhase, {"phase": "strike"}, breaker.move, cell)
        self.same(state(breaker), kept)
        breaker.strike()
        kept = state(breaker)
        self.refused(WrongPhase, {"phase": "move"}, breaker.strike)
        self.same(state(breaker), kept)

    def test_after_the_end(self):
        breaker = PenBreaker(10, prepared=True)
        while breaker.strike() and breaker.phase == "move":
            breaker.move(next(cell for cell in touching(breaker.cell) if not breaker.is_struck(cell)))
        kept = state(breaker)
        self.same(breaker.phase, "penned")
        self.refused(WrongPhase, {"phase": "penned"}, breaker.strike)
        for cell in (touching(breaker.cell)[0], (FAR, 0), breaker.cell):
            self.refused(WrongPhase, {"phase": "penned"}, breaker.move, cell)
        self.same(state(breaker), kept)
        breaker.undo()
        self.same((breaker.phase, len(breaker.struck)), ("strike", len(kept[4]) - 1))

    def test_wrong_cells(self):
        breaker = PenBreaker(10, prepared=True)
        breaker.strike()
        kept = state(breaker)
        for cell in FAR_CELLS:
            self.refused(BadCell, {"cell": cell}, breaker.move, cell)
            self.refused(BadCell, {"cell": cell}, breaker.is_struck, cell)
        for cell in ((0, 0), (2, 0), (0, -2), (1, 2), (10, 10), (120, 120)):
            self.refused(BadStep, {"cell": cell}, breaker.move, cell)
        self.same(state(breaker), kept)

    def test_struck_cells(self):
        breaker = PenBreaker(10, (0, 4), prepared=True)
        for y in (5, 6, 7, 8, 9):
            breaker.strike()
            breaker.move((0, y))
        breaker.strike()
        kept = state(breaker)
        for x in (-1, 0, 1):
            self.same(breaker.is_struck((x, 10)), True)
            self.refused(AlreadyStruck, {"cell": (x, 10)}, breaker.move, (x, 10))
        self.refused(BadStep, {"cell": (3, 10)}, breaker.move, (3, 10))
        self.same(state(breaker), kept)
        breaker.move((0, 8))
        self.same((breaker.cell, breaker.phase), ((0, 8), "strike"))

    def test_the_eight_ways(self):
        for way in touching((0, 0)):
            breaker = PenBreaker(10, prepared=True)
            breaker.strike()
            breaker.move(way)
            self.same((breaker.cell, breaker.start, breaker.phase), (way, (0, 0), "strike"))


class UndoTest(BreakerCase):
    def test_undo(self):
        for breaker in (PenBreaker(10, (3, -2), prepared=True), PenBreaker()):
            kept, turn, choose = [], 0, hugging(1)
            while breaker.phase != "penned" and turn < 120:
                kept.append(state(breaker))
                breaker.strike()
                kept.append(state(breaker))
                free = [cell for cell in touching(breaker.cell) if not breaker.is_struck(cell)]
                breaker.move(choose(turn, free, breaker.cell))
                turn += 1
            while kept:
                self.same(breaker.undo(), None)
                self.same(state(breaker), kept.pop())
            self.refused(NothingToUndo, {}, breaker.undo)
            self.same((breaker.struck, breaker.cell, breaker.phase, breaker.reasons), ((), breaker.start, "strike", ()))
            self.play(breaker, choose, 30)

    def test_another_way(self):
        breaker = PenBreaker(10, prepared=True)
        self.play(breaker, hugging(0), 40)
        told = [breaker.struck[20], breaker.struck[:20]]
        for _ in range(40):
            breaker.undo()
        self.same((breaker.struck, breaker.phase), (told[1], "strike"))
        self.same(breaker.strike(), told[0])
        breaker.undo()
        breaker.undo()
        free = [cell for cell in touching(breaker.cell) if not breaker.is_struck(cell)]
        breaker.move(free[-1])
        self.play(breaker, hugging(2), 60)


class CopyTest(BreakerCase):
    def test_copies(self):
        breaker = PenBreaker(11, (-2, 1), prepared=True)
        self.play(breaker, hugging(3), 50)
        breaker.strike()
        kept, copied = state(breaker), breaker.copy()
        self.assertIs(type(copied), PenBreaker)
        self.same(state(copied), kept)
        copied.move(next(cell for cell in touching(copied.cell) if not copied.is_struck(cell)))
        self.play(copied, hugging(0), 20)
        self.same(state(breaker), kept)
        told = state(copied)
        for _ in range(30):
            breaker.undo()
        self.same(state(copied), told)

    def test_copies_go_back_as_far(self):
        breaker = PenBreaker(11, (-2, 1), prepared=True)
        self.play(breaker, hugging(2), 30)
        copied = breaker.copy()
        for _ in range(60):
            copied.undo()
            breaker.undo()
            self.same(state(copied), state(breaker))
        self.refused(NothingToUndo, {}, copied.undo)
        self.same(state(copied), state(PenBreaker(11, (-2, 1), prepared=True)))
        copied = PenBreaker().copy()
        self.same(state(copied), state(PenBreaker()))
        self.refused(NothingToUndo, {}, copied.undo)
        self.play(copied, hugging(2), 10)

    def test_a_copy_of_a_penned_one(self):
        breaker = PenBreaker(10, prepared=True)
        self.play(breaker, cornering)
        copied = breaker.copy()
        self.same((state(copied), copied.phase), (state(breaker), "penned"))
        copied.undo()
        self.same((copied.phase, breaker.phase, copied.strike()), ("strike", "penned", breaker.struck[-1]))


if __name__ == "__main__":
    unittest.main()
