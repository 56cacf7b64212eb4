import unittest

from boards import SEVENS, PlainBoard, small_boards, some_outs
from support import FAR, PlayCase

from neverpenned.errors import BadCell, BadNumber, NoCells, Occupied, OffBoard, TooMany, TooMuch
from neverpenned.plans import breaker_plan, judge_breaker, judge_runner, runner_plan
from neverpenned.ranks import ranks
from neverpenned.regions import Region

FAR_CELLS = ((121, 0), (0, 121), (-121, 0), (0, -121), (FAR, 0), (0, -FAR))
ROW = Region([(0, 0), (1, 0), (2, 0)])
# The plans of the row without ways out and of the row with ways out at both ends.
BREAKER = {((), (1, 0)): (0, 0), (((0, 0),), (2, 0)): (1, 0)}
OTHER = {((), (1, 0)): (2, 0), (((2, 0),), (0, 0)): (1, 0)}
RUNNER = {((), (1, 0), (0, 0)): (2, 0), ((), (1, 0), (2, 0)): (0, 0)}


def all_boards():
    """Small boards, also of seven cells, with the starts."""
    for cells, outs, power in small_boards():
        yield cells, outs, power, [cell for cell in cells if cell not in outs]
    for at, cells in enumerate(SEVENS):
        for power in (1, 2):
            for outs in some_outs(cells, at)[:3]:
                yield cells, outs, power, [cell for cell in cells if cell not in outs]


def spoilt(plan, fillers):
    """Plans that differ from the plan in one key or one value, have one key less, or one more."""
    keys = list(plan)
    for at, key in enumerate(keys):
        yield {other: plan[other] for other in keys if other != key}
        for cell in fillers:
            yield {**plan, key: cell}
            yield {**{other: plan[other] for other in keys[:at]}, (*key[:-1], cell): plan[key],
                   **{other: plan[other] for other in keys[at + 1:]}}
            yield {**plan, (*key[:-1], cell): plan[key]}
            yield {**plan, (tuple(sorted({*key[0], cell})), *key[1:]): plan[key]}
            yield {**plan, (key[0] + (cell,), *key[1:]): plan[key]}
    yield {}


class PlansTest(PlayCase):
    def test_just_one_side_has_a_right_plan(self):
        sides = set()
        for cells, outs, power, starts in all_boards():
            board, plain = Region(cells), PlainBoard(cells, outs, power)
            for start in starts:
                first = breaker_plan(board, outs, power, start)
                second = runner_plan(board, outs, power, start)
                told = plain.rank(((), start)) is None
                sides.add(told)
                self.assertEqual((first is None, second is None), (told, not told))
                self.assertIs(type(second if told else first), dict)
                if told:
                    self.assertTrue(plain.is_right_for_runner(start, second))
                    self.same(judge_runner(board, outs, power, start, second), True)
                else:
                    self.assertTrue(plain.is_right_for_breaker(start, first))
                    self.same(judge_breaker(board, outs, power, start, first), True)
        self.assertEqual(sides, {True, False})

    def test_a_plan_of_one_side_is_none_of_the_other(self):
        self.assertIn(breaker_plan(ROW, [], 1, (1, 0)), (BREAKER, OTHER))
        self.same(breaker_plan(ROW, [(2, 0)], 1, (1, 0)), OTHER)
        self.assertEqual(runner_plan(ROW, [(0, 0), (2, 0)], 1, (1, 0)), RUNNER)
        self.same(runner_plan(ROW, [], 1, (1, 0)), None)
        self.same(breaker_plan(ROW, [(0, 0), (2, 0)], 1, (1, 0)), None)

    def test_a_start_without_a_free_cell(self):
        one = Region([(4, 4)])
        self.same(breaker_plan(one, [], 1, (4, 4)), {})
        self.same(runner_plan(one, [], 1, (4, 4)), None)
        self.same(judge_breaker(one, [], 1, (4, 4), {}), True)
        self.same(judge_runner(one, [], 1, (4, 4), {}), False)
        self.same(judge_breaker(one, [], 1, (4, 4), {((), (4, 4)): (4, 4)}), False)
        self.same(judge_breaker(one, [], 1, (4, 4), {((), (5, 5)): (4, 4)}), False)

    def test_plans_are_new_each_time(self):
        first = breaker_plan(ROW, [], 1, (1, 0))
        kept = dict(first)
        first.clear()
        self.same(breaker_plan(ROW, (), 1, (1, 0)), kept)
        first = runner_plan(ROW, [(0, 0), (2, 0)], 1, (1, 0))
        first.clear()
        self.assertEqual(runner_plan(ROW, [(2, 0), (0, 0), (2, 0)], 1, (1, 0)), RUNNER)


class JudgeTest(PlayCase):
    def test_spoilt_plans_of_the_breaker(self):
        found = set()
        for cells, outs, power, starts in list(all_boards())[::7]:
            board, plain = Region(cells), PlainBoard(cells, outs, power)
            fillers = [*cells[:3], (9, 9)]
            for start in starts[:2]:
                plan = breaker_plan(board, outs, power, start)
                for other in spoilt(plan, fillers) if plan is not None and len(plan) < 12 else ():
                    told = plain.is_right_for_breaker(start, other)
                    found.add((told, other == plan))
                    self.same(judge_breaker(board, outs, power, start, other), told)
        self.assertEqual(found, {(True, True), (True, False), (False, False)})

    def test_spoilt_plans_of_the_runner(self):
        found = set()
        for cells, outs, power, starts in list(all_boards())[::3]:
            board, plain = Region(cells), PlainBoard(cells, outs, power)
            fillers = [*cells[:3], (9, 9)]
            for start in starts[:2]:
                plan = runner_plan(board, outs, power, start)
                for other in spoilt(plan, fillers) if plan is not None and len(plan) < 12 else ():
                    told = plain.is_right_for_runner(start, other)
                    found.add((told, other == plan))
                    self.same(judge_runner(board, outs, power, start, other), told)
        self.assertEqual(found, {(True, True), (True, False), (False, False)})

    def judge_row(self, plan, outs=()):
        return judge_breaker(ROW, outs, 1, (1, 0), plan)

    def test_plans_of_the_breaker_for_a_row(self):
        self.same(self.judge_row(BREAKER), True)
        self.same(self.judge_row({}), False)
        for key in BREAKER:
            self.same(self.judge_row({other: BREAKER[other] for other in BREAKER if other != key}), False)
            # The cell of the runner, a struck cell and one that is not on the board cannot be struck.
            for cell in (key[1], *key[0], (3, 0), (1, 1), (FAR, -FAR)):
                self.same(self.judge_row({**BREAKER, key: cell}), False)
        # One strike of the first position leads to another second position.
        self.same(self.judge_row({**BREAKER, ((), (1, 0)): (2, 0)}), False)
        self.same(self.judge_row(OTHER), True)
        # Positions that are not needed may stand there too, but each must have a right strike.
        self.same(self.judge_row({**BREAKER, ((), (0, 0)): (1, 0)}), True)
        self.same(self.judge_row({**BREAKER, ((), (0, 0)): (2, 0)}), False)
        self.same(self.judge_row({**BREAKER, (((1, 0),), (0, 0)): (2, 0)}), True)
        # The runner is on a way out after the second strike.
        self.same(self.judge_row(BREAKER, [(2, 0)]), False)
        self.same(self.judge_row(OTHER, [(2, 0)]), True)

    def test_keys_that_are_no_positions(self):
        for key in (((), (3, 0)), ((), (FAR, FAR)), (((1, 0), (0, 0)), (2, 0)), (((0, 0), (0, 0)), (2, 0)),
                    (((2, 0),), (2, 0)), (((0, 1),), (2, 0)), (((-FAR, 0),), (2, 0)), (((0, 0), (1, 0), (2, 0)), (1, 0))):
            for cell in ((0, 0), (1, 0), (2, 0)):
                self.same(self.judge_row({**BREAKER, key: cell}), False)
                self.same(judge_runner(ROW, [(0, 0), (2, 0)], 1, (1, 0), {**RUNNER, (*key, cell): (1, 0)}), False)
        # A position without a free cell has no cell that may be struck.
        for cell in ((0, 0), (1, 0), (2, 0)):
            self.same(self.judge_row({**BREAKER, (((0, 0), (2, 0)), (1, 0)): cell}), False)
        # The runner is on no way out in a position.
        self.same(self.judge_row({**OTHER, ((), (2, 0)): (1, 0)}), True)
        self.same(self.judge_row({**OTHER, ((), (2, 0)): (1, 0)}, [(2, 0)]), False)

    def test_plans_of_the_runner_for_a_row(self):
        def judge(plan, outs=((0, 0), (2, 0))):
            return judge_runner(ROW, outs, 1, (1, 0), plan)
        self.same(judge(RUNNER), True)
        self.same((judge({}), judge(RUNNER, ()), judge(RUNNER, [(0, 0)])), (False, False, False))
        for key in RUNNER:
            self.same(judge({other: RUNNER[other] for other in RUNNER if other != key}), False)
            # Landings are free after the strike and near enough.
            for cell in (key[1], key[2], (1, 1), (3, 0), (FAR, -FAR)):
                self.same(judge({**RUNNER, key: cell}), False)
        # A strike of the cell of the runner, of a struck cell or of none of the board is no key.
        for strike in ((1, 0), (3, 0), (1, 1), (FAR, 0)):
            self.same(judge({**RUNNER, ((), (1, 0), strike): (0, 0)}), False)
        # A position that is not needed must be right as well: here a cell is lost for good.
        self.same(judge({**RUNNER, (((0, 0),), (1, 0), (2, 0)): (0, 0)}), False)
        self.same(judge({**RUNNER, (((2, 0),), (1, 0), (0, 0)): (2, 0)}), False)
        wide = Region([(0, 0), (1, 0), (2, 0), (3, 0)])
        right = {((), (1, 0), (0, 0)): (2, 0), ((), (1, 0), (2, 0)): (0, 0), ((), (1, 0), (3, 0)): (2, 0)}
        self.same(judge_runner(wide, [(0, 0), (2, 0)], 1, (1, 0), right), True)
        # It need not cover all strikes in a position that is not needed.
        self.same(judge_runner(wide, [(0, 0), (2, 0)], 1, (1, 0), {**right, (((3, 0),), (1, 0), (0, 0)): (2, 0)}), True)

    def test_plans_of_all_starts_together(self):
        for cells in SEVENS:
            board, plan, other = Region(cells), {}, {}
            for start in cells:
                plan.update(breaker_plan(board, [], 1, start))
                if start != cells[0]:
                    other.update(runner_plan(board, cells[:1], 4, start) or {})
            for start in cells:
                self.same(judge_breaker(board, [], 1, start, plan), True)
                if start != cells[0]:
                    told = ranks(board, cells[:1], 4)[(), start] is None
                    self.same(judge_runner(board, cells[:1], 4, start, other), told)

    def test_plans_are_not_changed(self):
        for judge, outs, plan in ((judge_breaker, [], BREAKER), (judge_runner, [(2, 0), (0, 0)], RUNNER)):
            given = dict(plan)
            judge(ROW, outs, 1, (1, 0), given)
            self.same(given, plan)


class RefusedPlansTest(PlayCase):
    def test_wrong_arguments(self):
        far = (FAR, 0)
        many = {((), (at, 0)): (0, 0) for at in range(4001)}
        rest = {breaker_plan: (), runner_plan: (), judge_breaker: (many,), judge_runner: (many,)}
        for call in rest:
            more = rest[call]
            self.refused(TooMuch, {"most": 7}, call, Region([*SEVENS[2], (7, 0)]), [far] * 8, 0, far, *more)
            self.refused(NoCells, {}, call, Region(), [far] * 8, 0, far, *more)
            self.refused(TooMany, {"most": 7}, call, ROW, [far] * 8, 0, far, *more)
            for cell in FAR_CELLS:
                self.refused(BadCell, {"cell": cell}, call, ROW, [(5, 5), cell, (FAR, 1)], 0, far, *more)
                self.refused(BadCell, {"cell": cell}, call, ROW, [(5, 5)], 1, cell, *more)
            for power in (0, 6, -1, FAR):
                self.refused(BadNumber, {"number": power}, call, ROW, [(5, 5)], power, far, *more)
            few = [{}] if more else []
            self.refused(OffBoard, {"cell": (5, 5)}, call, ROW, [(0, 0), (5, 5)], 1, (3, 0), *few)
            self.refused(OffBoard, {"cell": (3, 0)}, call, ROW, [(0, 0)], 1, (3, 0), *few)
            self.refused(Occupied, {"cell": (0, 0)}, call, ROW, [(2, 0), (0, 0)], 1, (0, 0), *few)

    def test_the_number_of_keys(self):
        for judge in (judge_breaker, judge_runner):
            for more in ((), ((0, 0),)):
                many = {((), (at, 0), *more): (0, 0) for at in range(4001)}
                self.refused(TooMany, {"most": 4000}, judge, ROW, [(5, 5)], 1, (3, 0), many)
                self.refused(TooMany, {"most": 4000}, judge, ROW, [], 1, (0, 0), many)
                del many[((), (4000, 0), *more)]
                self.refused(OffBoard, {"cell": (5, 5)}, judge, ROW, [(5, 5)], 1, (3, 0), many)
        many = {((), (at, 0)): (0, 0) for at in range(4000)}
        self.same(judge_breaker(ROW, [], 1, (0, 0), many), False)
        many = {((), (at, 0), (0, 0)): (0, 0) for at in range(4000)}
        self.same(judge_runner(ROW, [], 1, (0, 0), many), False)


if __name__ == "__main__":
    unittest.main()
