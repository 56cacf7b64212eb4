import unittest

from support import FAR, PlayCase, around, backward, closed_walk, strolls, wanted_winding, wanted_windings

from neverpenned.edges import begin, edge_image, end
from neverpenned.errors import BadCell, BadEdge, BadNumber, NotClosed, NotJoined, TooMany, TooMuch
from neverpenned.loops import Loop
from neverpenned.regions import Region
from neverpenned.symmetries import Symmetry

CELL = around(0, 0, 0, 0)
# 500 edges; walked four times they are as many as a loop may have.
WIDE = around(-60, -60, 64, 64)
BOARD = around(-120, -120, 120, 120)
EIGHT = closed_walk([(0, -1), (1, 0), (0, 1), (-1, 0), (0, 1), (-1, 0), (0, -1), (1, 0)])


class LoopTest(PlayCase):
    def test_the_edges(self):
        loop = Loop(CELL)
        self.same(loop.edges, (((0, 0), (-1, 0)), ((0, 0), (0, -1)), ((0, 0), (1, 0)), ((0, 0), (0, 1))))
        self.same(len(loop), 4)
        self.same(list(loop), CELL)
        self.same([(a, b) for a in loop for b in loop], [(a, b) for a in CELL for b in CELL])

    def test_the_empty_loop(self):
        for loop in (Loop(), Loop([]), Loop(()), Loop(edges=())):
            self.same((loop.edges, len(loop), list(loop)), ((), 0, []))
            self.same((loop.winding((0, 0)), loop.windings(), loop.area), (0, {}, 0))

    def test_a_tuple_is_accepted(self):
        self.same(Loop(tuple(CELL)).edges, tuple(CELL))

    def test_the_list_is_copied_and_not_changed(self):
        edges = list(CELL)
        loop = Loop(edges)
        self.assertEqual(edges, CELL)
        edges.clear()
        self.same((loop.edges, loop.area, len(loop)), (tuple(CELL), 1, 4))

    def test_loops_that_walk_twice_and_turn_about(self):
        edge = ((0, 0), (1, 0))
        for edges in (CELL * 2, backward(CELL) * 3, [edge, edge[::-1]], [edge, edge[::-1]] * 5, CELL + backward(CELL),
                      EIGHT, CELL[1:] + CELL[:1]):
            self.same(Loop(edges).edges, tuple(edges))

    def test_the_length(self):
        self.same(len(Loop(WIDE * 4)), 2000)
        self.refused(TooMany, {"most": 2000}, Loop, WIDE * 4 + WIDE[:1])
        self.refused(TooMany, {"most": 2000}, Loop, [((0, 0), (0, 0))] * 2001)
        self.refused(TooMany, {"most": 2000}, Loop, [((0, 0), (1, 0))] * 2001)
        self.refused(NotClosed, {"at": 0}, Loop, WIDE * 3 + WIDE[:499])

    def test_wrong_edges(self):
        for edge in (((0, 0), (0, 0)), ((0, 0), (1, 1)), ((0, 0), (2, 0)), ((121, 0), (122, 0)), ((-122, 0), (-121, 0)),
                     ((0, 122), (0, 121)), ((5, -122), (6, -122)), ((FAR, 0), (FAR, 1))):
            self.refused(BadEdge, {"edge": edge}, Loop, [edge])
            self.refused(BadEdge, {"edge": edge}, Loop, [*CELL, edge, ((9, 9), (9, 9))])
            self.refused(BadEdge, {"edge": edge}, Loop, [((5, 5), (5, 6)), edge])

    def test_edges_just_beyond_the_reach(self):
        for edge in (((121, 121), (121, 120)), ((-121, -121), (-120, -121)), ((-121, 121), (-121, 120)),
                     ((121, -121), (120, -121))):
            loop = Loop([edge, edge[::-1]])
            self.same((loop.edges, loop.windings(), loop.area), ((edge, edge[::-1]), {}, 0))
            self.refused(NotClosed, {"at": 0}, Loop, [edge])

    def test_edges_that_are_not_joined(self):
        far = ((7, 7), (8, 7))
        for at in range(1, 4):
            self.refused(NotClosed, {"at": at}, Loop, CELL[:at] + [far] + CELL[at:])
            self.refused(NotClosed, {"at": at}, Loop, CELL[:at] + [CELL[at][::-1]] + CELL)
            self.refused(NotClosed, {"at": 0}, Loop, CELL[:at])
            self.refused(NotClosed, {"at": 0}, Loop, [far, *CELL[:at]])
        self.refused(NotClosed, {"at": 0}, Loop, CELL[:3] + [far])
        self.refused(NotClosed, {"at": 0}, Loop, [*CELL, *around(5, 5, 5, 5)])
        self.refused(NotClosed, {"at": 4}, Loop, [*CELL, *around(5, 5, 5, 5), CELL[0], CELL[0][::-1]])
        self.refused(NotClosed, {"at": 1}, Loop, CELL[:1] + CELL[2:])
        self.refused(NotClosed, {"at": 0}, Loop, [CELL[0], CELL[0]])

    def test_all_closed_walks_are_loops(self):
        for edges in strolls(60, 17):
            self.same(Loop(edges).edges, tuple(edges))
            for at in range(len(edges)):
                self.assertEqual(begin(edges[at]), end(edges[at - 1]))

    def test_equal_loops(self):
        loop = Loop(CELL)
        self.same(loop == Loop(CELL), True)
        self.same(loop != Loop(tuple(CELL)), False)
        self.same(Loop() == Loop([]), True)
        for edges in ([], CELL[1:] + CELL[:1], backward(CELL), CELL * 2, around(1, 0, 1, 0)):
            self.same(loop == Loop(edges), False)
            self.same(loop != Loop(edges), True)

    def test_nothing_else_is_equal(self):
        for other in (CELL, tuple(CELL), None, 0, "", (), [], {}, Region([(0, 0)]), object()):
            for loop in (Loop(CELL), Loop()):
                self.same(loop == other, False)
                self.same(other == loop, False)
                self.same(loop != other, True)


class WindingTest(PlayCase):
    def test_around_one_cell(self):
        cells = [(x, y) for x in (-1, 0, 1) for y in (-1, 0, 1)]
        for many in range(1, 4):
            self.same([Loop(CELL * many).winding(cell) for cell in cells], [0, 0, 0, 0, many, 0, 0, 0, 0])
            self.same([Loop(backward(CELL) * many).winding(cell) for cell in cells], [0, 0, 0, 0, -many, 0, 0, 0, 0])

    def test_both_ways_around(self):
        self.same(Loop(EIGHT).windings(), {(-1, 0): 1, (0, -1): 1})
        edges = [*around(0, 0, 2, 2), *backward(around(0, 1, 0, 2))]
        self.same(Loop(edges).windings(), {(0, 0): 1, (1, 0): 1, (1, 1): 1, (1, 2): 1, (2, 0): 1, (2, 1): 1, (2, 2): 1})
        edges = [*around(0, 0, 1, 0), *around(0, -2, 0, 0)]
        self.same(Loop(edges).windings(), {(0, -2): 1, (0, -1): 1, (0, 0): 2, (1, 0): 1})
        edges = [*backward(around(-1, 0, 1, 0))[5:], *backward(around(-1, 0, 1, 0))[:5]]
        self.same(Loop(edges).windings(), {(-1, 0): -1, (0, 0): -1, (1, 0): -1})

    def test_turning_about(self):
        self.same(Loop(CELL + backward(CELL)).windings(), {})
        self.same(Loop([((0, 0), (1, 0)), ((1, 0), (0, 0))]).windings(), {})
        self.same(Loop([((0, 0), (0, 1)), ((0, 1), (0, 0))]).windings(), {})

    def test_the_words_of_the_document_for_many_loops(self):
        for edges in strolls(80, 24):
            loop, wanted = Loop(edges), wanted_windings(edges)
            self.same(loop.windings(), wanted)
            self.same(loop.area, sum(wanted.values()))
            for x in range(-9, 10):
                for y in (-3, 0, 1, 5):
                    self.same(loop.winding((x, y)), wanted.get((x, y), 0))

    def test_the_sides_of_each_edge(self):
        for edges in strolls(30, 30):
            loop = Loop(edges)
            for left, right in set(edges):
                times = edges.count((left, right)) - edges.count((right, left))
                self.same(loop.winding(left) - loop.winding(right), times)

    def test_cells_beyond_the_reach(self):
        for cell in ((121, 0), (0, 121), (-121, 0), (0, -121), (FAR, 0), (0, -FAR)):
            self.refused(BadCell, {"cell": cell}, Loop(CELL).winding, cell)
            self.refused(BadCell, {"cell": cell}, Loop().winding, cell)
        for cell in ((120, 120), (-120, 120), (120, -120), (-120, -120)):
            self.same(Loop(BOARD).winding(cell), 1)
            self.same(Loop(around(*cell, *cell)).winding(cell), 1)
            self.same(Loop(CELL).winding(cell), 0)

    def test_the_greatest_rectangle(self):
        # With the cells on its right hand, a loop around 48 by 98 cells has 50 by 100 cells.
        for west, south in ((0, 0), (-119, 20), (72, -120)):
            loop = Loop(around(west, south, west + 47, south + 97))
            self.assertEqual(set(loop.windings().values()), {1})
            self.same(len(loop.windings()), 48 * 98)
        # 41 by 122 cells are 5002; no rectangle has 5001.
        for edges in (around(0, 0, 38, 119), around(-60, 5, 59, 43), around(0, 0, 119, 38), BOARD):
            self.refused(TooMuch, {"most": 5000}, Loop(edges).windings)
        # A walk forth and back makes the rectangle larger, too.
        spike = [((-1, 97), (-1, 98)), ((-2, 97), (-2, 98))]
        near = Loop(around(0, 0, 47, 97) + spike[:1] + backward(spike[:1]))
        self.same(len(near.windings()), 48 * 98)
        far = Loop(around(0, 0, 47, 97) + spike + backward(spike))
        self.refused(TooMuch, {"most": 5000}, far.windings)
        self.same((far.area, far.winding((0, 0)), far.winding((-1, 97))), (48 * 98, 1, 0))

    def test_the_right_cells_count_for_the_rectangle(self):
        self.same(Loop(around(-120, 0, 120, 0)).windings(), {(x, 0): 1 for x in range(-120, 121)})
        stairs = closed_walk([(1, 0), (0, 1)] * 80)
        self.refused(TooMuch, {"most": 5000}, Loop(stairs + backward(stairs)).windings)
        # Clockwise, the rectangle has the cells on the left hand as well.
        self.same(len(Loop(backward(around(0, 0, 47, 97))).windings()), 48 * 98)
        self.refused(TooMuch, {"most": 5000}, Loop(backward(around(0, 0, 38, 119))).windings)

    def test_loops_at_the_rim(self):
        for x, y in ((120, 120), (-120, -120), (120, -120), (-120, 120)):
            self.same(Loop(around(x, y, x, y)).windings(), {(x, y): 1})
        self.same(Loop(around(-120, 118, 120, 120) * 2).windings(),
                  {(x, y): 2 for x in range(-120, 121) for y in (118, 119, 120)})

    def test_the_dict_is_new(self):
        loop = Loop(CELL)
        windings = loop.windings()
        windings[5, 5] = 3
        del windings[0, 0]
        self.same(loop.windings(), {(0, 0): 1})

    def test_long_loops(self):
        loop = Loop(around(-10, -10, 14, 14) * 20)
        self.same((len(loop), loop.area, loop.winding((14, -10)), len(loop.windings())), (2000, 12500, 20, 625))


class AreaTest(PlayCase):
    def test_areas(self):
        self.same([Loop(edges).area for edges in (CELL, backward(CELL), CELL * 3, EIGHT, around(-3, 2, 4, 3))],
                  [1, -1, 3, 2, 16])
        self.same(Loop(backward(around(0, 0, 9, 9)) * 2).area, -200)
        self.same(Loop([((0, 0), (1, 0)), ((1, 0), (0, 0))]).area, 0)

    def test_the_whole_board(self):
        self.same((len(BOARD), Loop(BOARD).area, Loop(BOARD * 2).area), (964, 241 * 241, 2 * 241 * 241))
        self.same(Loop(backward(BOARD)).area, -241 * 241)

    def test_where_the_loop_is(self):
        for east, north in ((-120, -120), (118, 0), (-3, 119), (110, 110)):
            self.same(Loop(around(east, north, east + 2, north + 1)).area, 6)


class OperatorsTest(PlayCase):
    def test_the_loop_backward(self):
        for edges in (CELL, CELL * 2, EIGHT, BOARD, *strolls(10, 12)):
            loop = Loop(edges)
            self.assertIs(type(-loop), Loop)
            self.same((-loop).edges, tuple(backward(edges)))
            self.same((-(-loop)).edges, tuple(edges))
            self.same((-loop).area, -loop.area)
            self.same(loop.edges, tuple(edges))
        self.same((-Loop()).edges, ())

    def test_sums(self):
        for first in (CELL, EIGHT[5:] + EIGHT[:5], around(0, -3, 2, 0), CELL * 2):
            for second in (CELL, around(0, -2, 1, 0), []):
                for one, two in ((first, second), (second, first)):
                    self.same((Loop(one) + Loop(two)).edges, tuple([*one, *two]))
        loop = Loop(CELL)
        self.same((loop + loop).edges, tuple(CELL * 2))
        self.same((loop + -Loop(CELL[:])).area, 0)
        self.same(loop.edges, tuple(CELL))
        self.same((Loop() + Loop()).edges, ())

    def test_sums_with_another_beginning(self):
        for edges in (CELL[1:] + CELL[:1], around(1, 0, 1, 0), around(0, 0, 0, 1), BOARD):
            with self.assertRaises(NotJoined) as caught:
                Loop(CELL) + Loop(edges)
            self.assertEqual(vars(caught.exception), {})
            self.refused(NotJoined, {}, lambda: Loop(edges) + Loop(CELL))
        # The same corner, though another edge.
        turned = [CELL[1][::-1], CELL[1]]
        self.same((Loop(CELL[2:] + CELL[:2]) + Loop(turned)).edges, tuple(CELL[2:] + CELL[:2] + turned))

    def test_the_length_of_a_sum(self):
        wide = Loop(WIDE * 2)
        self.same(len(wide + wide), 2000)
        self.same(len(Loop(WIDE * 4) + Loop()), 2000)
        self.same(len(Loop() + Loop(WIDE * 4)), 2000)
        pair = Loop([WIDE[0], WIDE[0][::-1]])
        self.same(len(Loop(WIDE * 2) + Loop(WIDE) + Loop(WIDE[:1] * 0)), 1500)
        self.refused(TooMany, {"most": 2000}, lambda: Loop(WIDE * 4) + pair)
        self.refused(TooMany, {"most": 2000}, lambda: pair + Loop(WIDE * 4))
        self.refused(NotJoined, {}, lambda: Loop(WIDE * 4) + Loop(CELL))
        self.refused(NotJoined, {}, lambda: Loop(CELL) + Loop(WIDE * 4))

    def test_images(self):
        for edges in (CELL, EIGHT, BOARD, around(1, 2, 3, 7), *strolls(5, 15)):
            loop = Loop(edges)
            for code in range(8):
                symmetry = Symmetry(code)
                image = loop.image(symmetry)
                self.assertIs(type(image), Loop)
                self.same(image.edges, tuple(edge_image(edge, symmetry) for edge in edges))
                self.same(image.area, -loop.area if symmetry.mirrors else loop.area)
            self.same(loop.edges, tuple(edges))
        self.same(Loop().image(Symmetry(5)).edges, ())
        self.same(Loop(CELL).image(Symmetry(1)).edges, tuple(CELL[1:] + CELL[:1]))
        self.same(Loop(CELL).image(Symmetry(4)).edges, (((1, 0), (0, 0)), ((0, -1), (0, 0)), ((-1, 0), (0, 0)),
                                                        ((0, 1), (0, 0))))

    def test_images_of_windings(self):
        for edges in strolls(6, 20):
            windings = Loop(edges).windings()
            for code in range(8):
                symmetry = Symmetry(code)
                sign = -1 if symmetry.mirrors else 1
                wanted = {symmetry(cell): sign * windings[cell] for cell in windings}
                self.same(Loop(edges).image(symmetry).windings(), {cell: wanted[cell] for cell in sorted(wanted)})

    def test_begun_at(self):
        loop = Loop(EIGHT)
        for at in range(8):
            begun = loop.begun_at(at)
            self.assertIs(type(begun), Loop)
            self.same(begun.edges, tuple(EIGHT[at:] + EIGHT[:at]))
            self.same(begun.windings(), loop.windings())
        self.same(loop.edges, tuple(EIGHT))
        for at in (-1, 8, 9, FAR, -FAR):
            self.refused(BadNumber, {"number": at}, loop.begun_at, at)
        for at in (-1, 0, 1):
            self.refused(BadNumber, {"number": at}, Loop().begun_at, at)
        self.same(Loop(WIDE * 4).begun_at(1999).edges[:2], (WIDE[-1], WIDE[0]))
        self.refused(BadNumber, {"number": 2000}, Loop(WIDE * 4).begun_at, 2000)

    def test_results_are_new(self):
        loop = Loop(CELL)
        for result in (loop.begun_at(0), loop + Loop(), Loop() + loop, loop.image(Symmetry(0)), -(-loop)):
            self.assertEqual(result, loop)
            self.assertIsNot(result, loop)

    def test_what_is_refused_changes_nothing(self):
        loop = Loop(CELL)
        self.refused(BadNumber, {"number": 4}, loop.begun_at, 4)
        self.refused(NotJoined, {}, lambda: loop + Loop(BOARD))
        self.refused(BadCell, {"cell": (0, 121)}, loop.winding, (0, 121))
        self.same((loop.edges, loop.area, loop.windings()), (tuple(CELL), 1, {(0, 0): 1}))


class HelpersTest(PlayCase):
    def test_the_winding_numbers_of_the_tests_are_right(self):
        self.same([wanted_winding(CELL, cell) for cell in ((-1, 0), (0, 0), (1, 0), (0, 1))], [0, 1, 0, 0])


if __name__ == "__main__":
    unittest.main()
