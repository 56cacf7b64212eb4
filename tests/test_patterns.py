import unittest
from itertools import combinations

from support import FAR, PlayCase

from neverpenned.errors import BadNumber, NotHeld, TooMany
from neverpenned.patterns import holds, lacking, patterns

WANTED = {1: [(-1, 0, 1)], 2: [(-1, 0, 1), (-1, 0, 2), (-2, 0, 1)], 3: [(-1, 1), (-1, 0, 2), (-2, 0, 1)],
          4: [(0, 1), (-1, 0)], 5: [(0,)]}


def wanted_lacking(level, columns):
    """The list of the lacking column, empty if the level is held, or None if all patterns lack more."""
    lacks = [[column for column in pattern if column not in columns] for pattern in WANTED.get(level, [()])]
    if [] in lacks:
        return []
    return next((lack for lack in lacks if len(lack) == 1), None)


def lots(most):
    """All lists of different columns from -most to most."""
    columns = range(-most, most + 1)
    return [list(lot) for many in range(len(columns) + 1) for lot in combinations(columns, many)]


class PatternsTest(PlayCase):
    def test_patterns(self):
        for level in WANTED:
            self.same(patterns(level), tuple(WANTED[level]))
        for level in (6, 7, 100, 250):
            self.same(patterns(level), ())

    def test_wrong_levels(self):
        for level in (0, -1, 251, FAR, -FAR):
            self.refused(BadNumber, {"number": level}, patterns, level)
            self.refused(BadNumber, {"number": level}, holds, level, [500] * 301)
            self.refused(BadNumber, {"number": level}, lacking, level, [500] * 301)


class HoldsTest(PlayCase):
    def test_all_lists(self):
        for level in range(1, 8):
            for columns in lots(3):
                wanted = wanted_lacking(level, columns)
                self.same(holds(level, columns), wanted == [])
                if wanted is None:
                    self.refused(NotHeld, {"level": level}, lacking, level, columns)
                else:
                    self.same(lacking(level, columns), wanted)

    def test_the_examples_of_the_document(self):
        self.same([lacking(3, [-1, 0]), lacking(4, [1]), lacking(6, [])], [[1], [0], []])
        self.refused(NotHeld, {"level": 3}, lacking, 3, [])

    def test_the_first_pattern_that_lacks_one(self):
        self.same([lacking(2, columns) for columns in ([-1, 0], [0, 1], [0, 2], [-2, 0], [-1, 1], [-1, 2])],
                  [[1], [-1], [-1], [1], [0], [0]])
        self.same([lacking(3, columns) for columns in ([0, 2], [-2, 0, 2], [1])], [[-1], [-1], [-1]])
        self.same([lacking(4, [-1]), lacking(4, [0]), lacking(5, []), lacking(1, [-1, 1])], [[0], [1], [0], [0]])

    def test_level_6_and_more(self):
        for level in (6, 7, 250):
            for columns in ([], [0], [-250, 250]):
                self.same((holds(level, columns), lacking(level, columns)), (True, []))
        self.same(holds(5, []), False)

    def test_orders_and_repeated_columns(self):
        self.same(holds(1, (1, 1, 0, -1, 7, 1)), True)
        self.same(lacking(1, [1, 7, -1, 1, -250, 250]), [0])
        columns = [1, -1, 1]
        self.same((holds(3, columns), lacking(1, columns), columns), (True, [0], [1, -1, 1]))

    def test_columns_far_away(self):
        for level in range(1, 6):
            self.same(holds(level, [column for column in range(-250, 251) if abs(column) > 2][:300]), False)
        self.same(holds(1, [*range(-150, 150)]), True)
        self.same(lacking(4, [*range(2, 251), 1]), [0])

    def test_wrong_columns(self):
        for call in (holds, lacking):
            for level in (1, 5, 6, 250):
                self.refused(TooMany, {"most": 300}, call, level, [0] * 301)
                self.refused(TooMany, {"most": 300}, call, level, [500] * 301)
                for column in (251, -251, FAR, -FAR):
                    self.refused(BadNumber, {"number": column}, call, level, [-1, 0, 1, column, 999])
                self.same(call(level, [-1, 0, 1] * 100), True if call is holds else [])
                call(level, [-1, 0, 1, -250, 250])

    def test_the_list_is_new(self):
        first = lacking(4, [1])
        first.append(7)
        self.same(lacking(4, [1]), [0])
        lacking(6, []).append(7)
        self.same(lacking(6, []), [])

    def test_the_fact_about_moves(self):
        """If a list holds a level, it holds the next one, or some pattern of it lacks exactly one column."""
        for level in range(1, 9):
            for columns in lots(3):
                if holds(level, columns):
                    for east in (-1, 0, 1):
                        for after in (level - 1, level, level + 1):
                            if after >= 1:
                                moved = [column - east for column in columns]
                                self.assertIsNotNone(wanted_lacking(after, moved))
                                self.assertLessEqual(len(lacking(after, moved)), 1)


if __name__ == "__main__":
    unittest.main()
