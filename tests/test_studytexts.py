import unittest

from plays import PlainGame, plain_games, shuttle
from support import PlayCase
from test_records import BAD_CELLS, DEEDS, GRID, HEAD, cells_line, plain_lines
from trees import PlainStudy, grown, state

from neverpenned.errors import (AlreadyStruck, BadDeed, BadText, NoNode, Occupied, OffBoard, TooFar, TooMany,
                                WrongPhase)
from neverpenned.games import Game
from neverpenned.studies import Study
from neverpenned.studytexts import read_study, study_text

TREE = ["1 strike 2,0", "2 move 0,0", "3 strike 1,0", "4 move -1,0", "2 move -1,0", "1 strike 0,0", "2 move 2,0"]


def tree_lines(study, node=0, depth=0):
    """The lines of the descendants of the node, by the words of the document."""
    lines = []
    for child in study.children(node):
        name, (x, y) = study.nodes[child][1]
        lines.append(f"{depth + 1} {name} {x},{y}")
        lines.extend(tree_lines(study, child, depth + 1))
    return lines


def plain_text(study):
    plain = study.plain
    head = plain_lines(PlainGame(plain.power, plain.start, plain.board, plain.ways_out, plain.before))
    return "\n".join([*head, *tree_lines(study)])


def renumbered(study, node=0, other=None):
    """The same plain study with the numbers in the order of the lines."""
    other = PlainStudy(study.plain) if other is None else other
    for child in study.children(node):
        at = len(other.nodes)
        parent = other.way[-1] if node else 0
        other.nodes[at], other.most = (parent, study.nodes[child][1]), at
        other.way = [*(other.way if node else []), at]
        renumbered(study, child, other)
        other.way = other.way[:-1]
    return other


class StudyTextTest(PlayCase):
    def test_studies_of_all_kinds(self):
        for at, plain in enumerate(plain_games() * 2):
            wanted = grown(plain, 25, seed=at + 3)
            study = wanted.real()
            self.same(study_text(study), plain_text(wanted))
            self.same(state(study), wanted.state())

    def test_a_text(self):
        self.same(study_text(Study(Game(4))), "power 4\nstart 0,0\nboard open\nout\nbefore")
        study = read_study("\n".join([*HEAD, *TREE]))
        self.same(study_text(study), "\n".join([*HEAD, *TREE]))
        self.same([study.parent(node) for node in study.nodes()], [None, 0, 1, 2, 3, 1, 0, 6])

    def test_children_come_in_the_order_of_their_numbers(self):
        study = Study(Game(1))
        for x in (5, 3, 4):
            study.add(0, ("strike", (x, 0)))
        study.add(2, ("move", (0, 1)))
        study.add(1, ("move", (1, 1)))
        study.add(2, ("move", (0, -1)))
        head = "power 1\nstart 0,0\nboard open\nout\nbefore\n"
        self.same(study_text(study), head + "1 strike 5,0\n2 move 1,1\n1 strike 3,0\n2 move 0,1\n2 move 0,-1\n1 strike 4,0")
        study.prune(1)
        study.add(0, ("strike", (5, 0)))
        self.same(study_text(study), head + "1 strike 3,0\n2 move 0,1\n2 move 0,-1\n1 strike 4,0\n1 strike 5,0")


class ReadStudyTest(PlayCase):
    def test_studies_of_all_kinds(self):
        for at, plain in enumerate(plain_games() * 2):
            wanted = grown(plain, 25, seed=at + 30)
            study = read_study(plain_text(wanted))
            self.assertIs(type(study), Study)
            self.same(state(study), renumbered(wanted).state())
            self.assertIs(study == wanted.real(), True)
            self.same(study_text(study), plain_text(wanted))

    def test_a_study_that_is_read_goes_on(self):
        study = read_study("\n".join([*HEAD, *TREE]))
        self.same((len(study), study.add(2, ("strike", (-1, 0))), study.prune(1)), (8, 8, 6))
        self.same((study.nodes(), study.add(6, ("move", (-1, 0)))), ([0, 6, 7], 9))
        self.refused(NoNode, {"node": 8}, study.parent, 8)

    def test_the_greatest_studies(self):
        deeds = [f"{name} {x},{y}" for name, (x, y) in shuttle(50)]
        chains = []
        for first in (5, 6, 7):
            chains += [f"1 strike {first},60", *[f"{at} {deed}" for at, deed in enumerate(deeds[1:], start=2)]]
        head = ["power 5", "start 0,0", "board open", "out", "before"]
        study = read_study("\n".join([*head, *chains[:299]]))
        self.same((len(study), study.depth(100), study.depth(299), study.children(0)), (300, 100, 99, [1, 101, 201]))
        self.same(study_text(study), "\n".join([*head, *chains[:299]]))
        self.refused(TooMany, {"most": 300}, read_study, "\n".join([*head, *chains]))
        self.refused(TooMany, {"most": 300}, read_study, "\n".join([*head, *chains, *chains]))
        # Too many lines are refused before a deed is.
        self.refused(TooMany, {"most": 300}, read_study, "\n".join([*head, "1 move 0,0", *chains[1:]]))
        self.refused(BadText, {"line": 306}, read_study, "\n".join([*head, *chains, "x"]))
        wide = [f"1 strike {1 + at // 200},{at % 200 - 90}" for at in range(1, 300)]
        self.same(len(read_study("\n".join([*head, *wide]))), 300)
        self.refused(TooMany, {"most": 300}, read_study, "\n".join([*head, *wide, "1 strike 50,50"]))


class BadLinesTest(PlayCase):
    def bad(self, line, lines):
        self.refused(BadText, {"line": line}, read_study, "\n".join(lines))

    def test_the_first_five_lines(self):
        self.refused(BadText, {"line": 1}, read_study, "")
        for many in range(1, 5):
            self.bad(many + 1, HEAD[:many])
        for at in range(5):
            self.bad(at + 1, HEAD[:at] + HEAD[at + 1:] + TREE)
            self.bad(at + 2, [*HEAD[:at + 1], *HEAD[at:], *TREE])
            for line in ("", "x", HEAD[at] + " ", " " + HEAD[at], HEAD[at].upper(), HEAD[at].replace(" ", "  "),
                         "1 " + HEAD[at]):
                if line != HEAD[at]:
                    self.bad(at + 1, [*HEAD[:at], line, *HEAD[at + 1:], *TREE])
        for line in ("power 0", "power 6", "power 01"):
            self.bad(1, [line, *HEAD[1:], *TREE])
        for text in BAD_CELLS:
            for at, word in ((1, "start"), (2, "board -9,0"), (3, "out -9,0"), (4, "before -9,0")):
                self.bad(at + 1, [*HEAD[:at], f"{word} {text}", *HEAD[at + 1:], *TREE])

    def test_lines_of_nodes(self):
        for line in ("", " ", "1", "1 ", "strike 2,0", "1 strike", "1 strike ", "1  strike 2,0", "1 strike  2,0", "1 2,0",
                     " 1 strike 2,0", "1 strike 2,0 ", "1 strike 2,0 3,0", "01 strike 2,0", "+1 strike 2,0",
                     "-1 strike 2,0", "0 strike 2,0", "1.0 strike 2,0", "\u0661 strike 2,0", "1 Strike 2,0", "1 penned 2,0",
                     "1,strike 2,0", "one strike 2,0", "1 1 strike 2,0", "2 strike 2,0", "101 strike 2,0", "1\tstrike 2,0",
                     "00 strike 2,0", "9" * 5000 + " strike 2,0", *["1 strike " + text for text in BAD_CELLS]):
            self.bad(6, [*HEAD, line])
            self.bad(6, [*HEAD, line, *TREE, "x"])
            if not line.startswith("2 "):
                self.bad(9, [*HEAD, *TREE[:3], line, *TREE[3:]])
        self.bad(6, [*HEAD, ""])
        self.bad(13, [*HEAD, *TREE, ""])
        self.bad(6, [*HEAD, DEEDS[0]])

    def test_depths(self):
        for at in range(len(TREE)):
            depth = int(TREE[at][0])
            for other in (depth + 2, depth + 3, 0, 100):
                before = int(TREE[at - 1][0]) if at else 0
                if other > before + 1 or other == 0:
                    self.bad(at + 6, [*HEAD, *TREE[:at], str(other) + TREE[at][1:], *TREE[at + 1:]])
        head = ["power 5", "start 0,0", "board open", "out", "before"]
        chain = [f"{at} {name} {x},{y}" for at, (name, (x, y)) in enumerate(shuttle(51), start=1)]
        self.same(len(read_study("\n".join([*head, *chain[:100]]))), 101)
        self.bad(106, [*head, *chain])
        self.bad(106, [*head, *chain[:101]])
        self.bad(106, [*head, *chain[:100], "101 strike 50,50"])
        self.same(len(read_study("\n".join([*head, *chain[:100], "100 move 3,3", "1 strike 50,50"]))), 103)

    def test_lines_are_separated_by_newlines_alone(self):
        for sign in ("\r", "\u2028", "\x0b", "\x1c", "\x85"):
            self.bad(6, [*HEAD, sign.join(TREE)])

    def test_the_first_bad_line_is_told_before_all_other_errors(self):
        board = cells_line("board", [*GRID, (40, 0)])
        self.bad(7, ["power 1", "start 50,50", board, "out 60,60", "before", "1 move 99,99", "x"])
        self.bad(305, ["power 1", "start 50,50", board, "out 60,60", "before", *["1 strike 9,9"] * 299, "3 strike 9,9"])


class RefusedStudiesTest(PlayCase):
    def refused_deed(self, line, cause, fields, lines):
        """The deed is refused, and the error is raised from that of the deed, or without a cause."""
        with self.assertRaises(BadDeed) as caught:
            read_study("\n".join(lines))
        self.assertIs(type(caught.exception), BadDeed)
        self.assertEqual(vars(caught.exception), {"line": line})
        if cause is None:
            self.assertIsNone(caught.exception.__cause__)
            self.assertIsNone(caught.exception.__context__)
        else:
            self.assertIs(type(caught.exception.__cause__), cause)
            self.assertEqual(vars(caught.exception.__cause__), fields)

    def test_what_the_game_raises(self):
        board = cells_line("board", [*GRID, (40, 0)])
        end = ["1 move 0,0"] * 300
        self.refused(TooMany, {"most": 800}, read_study, "\n".join(["power 1", "start 50,50", board, "out 60,60", "before",
                                                                    *end]))
        for lines, error, cell in ((["power 1", "start 9,9", *HEAD[2:]], OffBoard, (9, 9)),
                                   ([*HEAD[:3], "out 7,7", "before 9,9"], OffBoard, (7, 7)),
                                   ([*HEAD[:4], "before 9,9"], OffBoard, (9, 9)),
                                   ([*HEAD[:3], "out 1,0", "before 1,0"], Occupied, (1, 0)),
                                   ([*HEAD[:4], "before 1,0"], AlreadyStruck, (1, 0))):
            self.refused(error, {"cell": cell}, read_study, "\n".join([*lines, *end]))

    def test_deeds_that_are_refused(self):
        self.refused_deed(6, WrongPhase, {"phase": "strike"}, [*HEAD, "1 move 2,0", "1 strike 9,9"])
        self.refused_deed(7, WrongPhase, {"phase": "move"}, [*HEAD, "1 strike 2,0", "2 strike 0,0"])
        self.refused_deed(6, OffBoard, {"cell": (9, 9)}, [*HEAD, "1 strike 9,9"])
        self.refused_deed(6, Occupied, {"cell": (1, 0)}, [*HEAD, "1 strike 1,0"])
        self.refused_deed(13, AlreadyStruck, {"cell": (3, 0)}, [*HEAD, *TREE, "1 strike 3,0"])
        self.refused_deed(8, TooFar, {"cell": (-1, 0)}, ["power 1", *HEAD[1:], "1 strike 0,0", "1 strike 2,0", "2 move -1,0"])
        self.refused_deed(11, WrongPhase, {"phase": "away"}, [*HEAD, *TREE[:5], "3 strike 0,0"])

    def test_the_deed_of_an_earlier_child(self):
        self.refused_deed(13, None, None, [*HEAD, *TREE, "1 strike 2,0"])
        self.refused_deed(13, None, None, [*HEAD, *TREE, "2 move 2,0", "1 move 0,0"])
        self.refused_deed(7, None, None, [*HEAD, "1 strike 2,0", "1 strike 2,0"])
        # The same deed below another node is another one.
        self.same(len(read_study("\n".join([*HEAD, *TREE, "1 strike -1,0", "2 move 2,0", "2 move 0,0"]))), 11)

    def test_the_length(self):
        text = "\n".join([*HEAD, *TREE])
        most = text + "\n1 strike -1,0" * ((79990 - len(text)) // 14)
        most += "\n" + "x" * (80000 - len(most) - 1)
        self.same(len(most), 80000)
        self.refused(BadText, {"line": most.count("\n") + 1}, read_study, most)
        self.refused(TooMany, {"most": 80000}, read_study, most + "x")
        self.refused(TooMany, {"most": 80000}, read_study, "x" * 80001)
        self.refused(BadText, {"line": 1}, read_study, "x" * 80000)


if __name__ == "__main__":
    unittest.main()
