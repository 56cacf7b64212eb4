import unittest

from support import FAR, PlayCase, around, backward, closed_walk, scattered, strolls

from neverpenned.contours import contours
from neverpenned.edges import begin, edge_image, end, heading
from neverpenned.errors import BadEdge, BadLetter, NotClosed, TooMany
from neverpenned.loops import Loop
from neverpenned.regions import Region
from neverpenned.symmetries import Symmetry
from neverpenned.turnwords import loop_of, walk_of, word_of

CELL = around(0, 0, 0, 0)
WIDE = around(-60, -60, 64, 64)
STAIR = Region([(0, 0), (1, 0), (1, 1)])


def wanted_letter(edge, after):
    """The letter by the headings: a left turn is a quarter turn counterclockwise. None if the walk turns about."""
    x, y = heading(edge)
    return {(-y, x): "l", (x, y): "s", (y, -x): "r", (-x, -y): None}[heading(after)]


def wanted_word(edges):
    """The letters of a closed walk, and None where it turns about."""
    return [wanted_letter(edges[at - 1], edges[at]) for at in range(1, len(edges))] + [
        wanted_letter(edges[-1], edges[0])]


class WordTest(PlayCase):
    def test_words(self):
        self.same(word_of(Loop(CELL)), "llll")
        self.same(word_of(Loop(backward(CELL) * 2)), "rrrrrrrr")
        self.same(word_of(Loop(around(0, 0, 1, 0))), "lsllsl")
        self.same(word_of(contours(STAIR)[0]), "lslsllrl")
        self.same(word_of(contours(STAIR)[0].begun_at(3)), "sllrllsl")
        self.same(word_of(Loop(closed_walk([(0, -1), (1, 0), (0, 1), (-1, 0), (0, 1), (-1, 0), (0, -1), (1, 0)]))),
                  "lllrlllr")

    def test_the_empty_loop(self):
        self.same(word_of(Loop()), "")

    def test_the_last_letter_leads_to_the_first_edge(self):
        for at in range(20):
            edges = around(3, 4, 7, 8)
            word = word_of(Loop(edges[at:] + edges[:at]))
            self.same([n for n in range(20) if word[n] == "l"], sorted((n - at) % 20 for n in (4, 9, 14, 19)))

    def test_loops_that_turn_about(self):
        edge = ((0, 0), (1, 0))
        self.refused(BadLetter, {"at": 0}, word_of, Loop([edge, edge[::-1]]))
        self.refused(BadLetter, {"at": 3}, word_of, Loop(CELL + backward(CELL)))
        self.refused(BadLetter, {"at": 0}, word_of, Loop(CELL[3:] + backward(CELL) + CELL[:3]))
        # Only the way from the last edge to the first one turns about.
        round_way = around(1, 1, 1, 1)
        loop = Loop([edge, *round_way[1:], *round_way[:1], edge[::-1]])
        self.refused(BadLetter, {"at": 5}, word_of, loop)
        self.refused(BadLetter, {"at": 4}, word_of, loop.begun_at(1))

    def test_many_loops(self):
        words = 0
        for edges in strolls(300, 9):
            wanted = wanted_word(edges) if edges else []
            if None in wanted:
                self.refused(BadLetter, {"at": wanted.index(None)}, word_of, Loop(edges))
            else:
                self.same(word_of(Loop(edges)), "".join(wanted))
                words += 1
        self.assertGreater(words, 3)

    def test_the_loop_walked_backward(self):
        other = {"l": "r", "s": "s", "r": "l"}
        for loop in (contours(STAIR)[0], Loop(around(-2, 0, 5, 3))):
            word = word_of(loop)
            back = [other[letter] for letter in reversed(word)]
            self.same(word_of(-loop), "".join(back[1:] + back[:1]))

    def test_images(self):
        loop = contours(STAIR)[0]
        for code in range(8):
            mirrored = word_of(loop).replace("l", "x").replace("r", "l").replace("x", "r")
            self.same(word_of(loop.image(Symmetry(code))), mirrored if code >= 4 else word_of(loop))

    def test_the_longest_word(self):
        word = word_of(Loop(WIDE * 4))
        self.same((len(word), word.count("l"), word.count("s")), (2000, 16, 1984))


class WalkTest(PlayCase):
    def test_walks(self):
        self.same(walk_of(CELL[0], "lll"), CELL)
        self.same(walk_of(CELL[0], "llll"), CELL + CELL[:1])
        self.same(walk_of(((0, 0), (-1, 0)), "s"), [((0, 0), (-1, 0)), ((0, -1), (-1, -1))])
        self.same(walk_of(((0, 0), (-1, 0)), "r"), [((0, 0), (-1, 0)), ((-1, -1), (-1, 0))])
        self.same(walk_of(((0, 0), (0, 1)), "rsl"), [((0, 0), (0, 1)), ((-1, 1), (0, 1)), ((-1, 2), (0, 2)),
                                                     ((-1, 2), (-1, 3))])

    def test_the_empty_word(self):
        for edge in (CELL[0], ((121, 121), (121, 120)), ((-121, -121), (-120, -121))):
            self.same(walk_of(edge, ""), [edge])

    def test_each_letter_goes_on_in_its_way(self):
        for edge in (((0, 0), (1, 0)), ((5, -3), (5, -2)), ((0, 0), (-1, 0)), ((9, 9), (9, 8))):
            for word in ("lsrrls", "rrllss", "sssrrr", "slslrl"):
                walk = walk_of(edge, word)
                self.same([wanted_letter(walk[at], walk[at + 1]) for at in range(6)], list(word))
                for at in range(6):
                    self.assertEqual(end(walk[at]), begin(walk[at + 1]))

    def test_walks_that_leave_the_board(self):
        walk = walk_of(((-1, 120), (0, 120)), "s" * 2000)
        self.same(walk, [((-1, y), (0, y)) for y in range(120, 2121)])
        self.same(walk_of(((-121, 3), (-121, 4)), "srl"), [((-121, 3), (-121, 4)), ((-122, 3), (-122, 4)),
                                                           ((-123, 4), (-122, 4)), ((-123, 4), (-123, 5))])

    def test_images(self):
        word = "lsrrlslsl"
        mirrored = "rsllrsrsr"
        for code in range(8):
            symmetry = Symmetry(code)
            for edge in CELL:
                wanted = [edge_image(passed, symmetry) for passed in walk_of(edge, word)]
                self.same(walk_of(edge_image(edge, symmetry), mirrored if symmetry.mirrors else word), wanted)

    def test_wrong_arguments(self):
        for call in (walk_of, loop_of):
            for edge in (((0, 0), (0, 0)), ((0, 0), (1, 1)), ((121, 0), (122, 0)), ((0, FAR), (0, FAR + 1))):
                for word in ("", "lll", "x", "x" * 2001):
                    self.refused(BadEdge, {"edge": edge}, call, edge, word)
            for word in ("l" * 2001, "x" * 2001, "l" * 4000):
                self.refused(TooMany, {"most": 2000}, call, CELL[0], word)
            for at, word in ((0, "x"), (2, "llx"), (2, "llL"), (1, "s sx"), (4, "rrrr\n"), (1, "lx" * 1000), (0, "0"),
                             (1999, "l" * 1999 + "a")):
                self.refused(BadLetter, {"at": at}, call, CELL[0], word)

    def test_the_longest_word(self):
        self.same(len(walk_of(CELL[0], "l" * 2000)), 2001)
        self.same(walk_of(CELL[0], "l" * 2000)[-2:], [CELL[3], CELL[0]])

    def test_the_list_is_new(self):
        self.fresh(walk_of, CELL[0], "lsr")


class LoopOfTest(PlayCase):
    def test_loops(self):
        loop = loop_of(((0, 0), (-1, 0)), "lslsllrl")
        self.assertIs(type(loop), Loop)
        self.assertEqual(loop, contours(STAIR)[0])
        self.same(loop_of(CELL[2], "llll").edges, tuple(CELL[2:] + CELL[:2]))
        self.same(loop_of(CELL[2], "llllllll").edges, tuple(CELL[2:] + CELL[:2]) * 2)

    def test_the_empty_word(self):
        for edge in (CELL[0], ((121, 121), (121, 120))):
            self.same(loop_of(edge, "").edges, ())

    def test_words_are_read_back(self):
        read = 0
        regions = [Region([(0, 0), (1, 0), (3, 1), (2, 1), (2, 2), (0, 2), (0, 1)])]
        regions.append(Region([(x, y) for x in range(-2, 5) for y in range(6)]) - regions[0])
        loops = [loop for region in regions for loop in contours(region)]
        loops.extend(-loop for loop in list(loops))
        loops.extend(Loop(edges) for edges in strolls(200, 7) if edges and None not in wanted_word(edges))
        for loop in loops:
            self.assertEqual(loop_of(loop.edges[0], word_of(loop)), loop)
            read += 1
        self.assertGreater(read, 10)

    def test_the_longest_word(self):
        loop = Loop(WIDE * 4)
        self.assertEqual(loop_of(WIDE[0], word_of(loop)), loop)

    def test_walks_that_do_not_come_back(self):
        for word in ("l", "s", "r", "ll", "lll", "lllll", "llls", "lllr", "lslsllrr", "lrlrlrlr"):
            self.refused(NotClosed, {"at": 0}, loop_of, CELL[0], word)
        # The walk ends at the corner where it began, but would go on with another edge.
        self.refused(NotClosed, {"at": 0}, loop_of, CELL[0], "lllr")

    def test_walks_that_leave_the_board(self):
        self.refused(BadEdge, {"edge": ((-1, 122), (0, 122))}, loop_of, ((-1, 120), (0, 120)), "sss")
        self.refused(BadEdge, {"edge": ((-1, 122), (0, 122))}, loop_of, ((-1, 121), (0, 121)), "s")
        # Also if the walk comes back later.
        self.refused(BadEdge, {"edge": ((121, 0), (122, 0))}, loop_of, ((121, 0), (120, 0)), "llll")
        self.refused(BadEdge, {"edge": ((0, -121), (0, -122))}, loop_of, ((0, -121), (-1, -121)), "llll")
        self.refused(BadEdge, {"edge": ((-122, 4), (-121, 4))}, loop_of, ((-120, 4), (-121, 4)), "rrrr")
        self.refused(BadLetter, {"at": 3}, loop_of, ((-1, 120), (0, 120)), "sssx")

    def test_loops_at_the_rim_of_the_board(self):
        for x, y in ((120, 120), (-120, 120), (120, -120), (-120, -120)):
            edges = around(x, y, x, y)
            self.same(loop_of(edges[0], "llll").edges, tuple(edges))
            self.same(loop_of(edges[3][::-1], "rrrr").edges, tuple(backward(edges)))

    def test_random_words(self):
        for n in range(100):
            word = "".join("lsr"[number] for number in scattered(12, 3, seed=n))
            walk = walk_of(CELL[1], word)
            if walk[-1] == walk[0]:
                self.same(loop_of(CELL[1], word).edges, tuple(walk[:-1]))
            else:
                self.refused(NotClosed, {"at": 0}, loop_of, CELL[1], word)


if __name__ == "__main__":
    unittest.main()
