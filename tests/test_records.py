import unittest

from plays import ROW, PlainGame, plain_games, plain_plays, played, shuttle, state
from support import PlayCase

from neverpenned.errors import (AlreadyStruck, BadDeed, BadText, NothingToUndo, Occupied, OffBoard, TooFar, TooMany,
                                WrongPhase)
from neverpenned.games import Game
from neverpenned.records import read_record, record_text
from neverpenned.regions import Region

HEAD = ["power 2", "start 1,0", "board -1,0 0,0 1,0 2,0 3,0", "out -1,0", "before 3,0"]
DEEDS = ["strike 2,0", "move 0,0", "strike 1,0", "move -1,0"]
GRID = [(x, y) for x in range(40) for y in range(20)]
BAD_CELLS = ("", "0", "0,", ",0", "0,0,0", "0, 0", "+1,0", "01,0", "-0,0", "0,-0", "1.0,2", "x,y", "121,0", "0,-121",
             "\u0661,0", "1_0,0", "(0,0)", "0;0", "0" * 30 + ",0", "0" * 21, "1e1,0", "--1,0", "9" * 5000 + ",0")


def cells_line(word, cells):
    return " ".join([word, *[f"{x},{y}" for x, y in cells]])


def plain_lines(plain):
    """The lines of the record of the game, by the words of the document."""
    return [f"power {plain.power}", f"start {plain.start[0]},{plain.start[1]}",
            "board open" if plain.board is None else cells_line("board", sorted(set(plain.board))),
            cells_line("out", plain.ways_out), cells_line("before", plain.before),
            *[f"{name} {x},{y}" for name, (x, y) in plain.deeds]]


class RecordTextTest(PlayCase):
    def test_all_kinds_of_games(self):
        for plain in [*plain_games(), *plain_plays()]:
            self.same(record_text(plain.real()).split("\n"), plain_lines(plain))

    def test_texts(self):
        self.same(record_text(Game(5)), "power 5\nstart 0,0\nboard open\nout\nbefore")
        game = Game(2, (1, 0), board=Region(ROW[3:8]), ways_out=[(-1, 0)], before=[(3, 0)])
        self.same(record_text(game), "\n".join(HEAD))
        for name, cell in (("strike", (2, 0)), ("move", (0, 0)), ("strike", (1, 0)), ("move", (-1, 0))):
            game.do((name, cell))
        self.same(record_text(game), "\n".join(HEAD + DEEDS))
        game.undo()
        self.same(record_text(game), "\n".join(HEAD + DEEDS[:3]))

    def test_a_record_leaves_the_game_as_it_is(self):
        for plain in plain_plays():
            game = plain.real()
            record_text(game)
            self.same(state(game), plain.state())


class ReadRecordTest(PlayCase):
    def test_all_kinds_of_games(self):
        for plain in [*plain_games(), *plain_plays()]:
            game = read_record("\n".join(plain_lines(plain)))
            self.assertIs(type(game), Game)
            self.same(state(game), plain.state())
            for deed in plain.deeds[::-1]:
                self.same(game.undo(), deed)
            self.refused(NothingToUndo, {}, game.undo)
            self.same(state(game), state(plain.begun()))

    def test_a_game_that_is_read_goes_on(self):
        for at, plain in enumerate(plain_plays(7)):
            many = len(plain.deeds)
            game = read_record(record_text(plain.real()))
            played(plain, 8, seed=at + 40)
            for deed in plain.deeds[many:]:
                game.do(deed)
            self.same(state(read_record(record_text(game))), plain.state())

    def test_the_greatest_games(self):
        for power in (1, 5):
            plain = PlainGame(power)
            plain.deeds = shuttle(1200, power)
            text = "\n".join(plain_lines(plain))
            game = read_record(text)
            self.same((game.deeds, game.turn, game.phase, record_text(game)), (tuple(plain.deeds), 1200, "strike", text))
        plain = PlainGame(1, (0, 0), GRID, GRID[1:], GRID[1:])
        self.same(state(read_record("\n".join(plain_lines(plain)))), plain.state())


class BadLinesTest(PlayCase):
    def bad(self, line, lines):
        self.refused(BadText, {"line": line}, read_record, "\n".join(lines))

    def test_missing_lines(self):
        self.refused(BadText, {"line": 1}, read_record, "")
        for many in range(1, 5):
            self.bad(many + 1, HEAD[:many])
            self.bad(many + 1, [*HEAD[:many], ""])
        for at in range(5):
            self.bad(at + 1, HEAD[:at] + HEAD[at + 1:])
            self.bad(at + 1, HEAD[:at] + HEAD[at + 1:] + DEEDS)
        self.same(read_record("\n".join(HEAD)).turn, 0)

    def test_doubled_and_exchanged_lines(self):
        for at in range(5):
            self.bad(at + 2, [*HEAD[:at + 1], *HEAD[at:], *DEEDS])
            for other in range(at + 1, 5):
                lines = [*HEAD, *DEEDS]
                lines[at], lines[other] = lines[other], lines[at]
                self.bad(at + 1, lines)
        self.bad(6, [*HEAD, HEAD[4], *DEEDS])
        self.bad(7, [*HEAD, DEEDS[0], HEAD[0]])

    def test_the_power(self):
        for line in ("power", "power ", "power 0", "power 6", "power 01", "power 11", "power -1", "power +1", "power  1",
                     "power 1 ", " power 1", "Power 1", "power1", "power 1.0", "power \u0661", "power one", "1"):
            self.bad(1, [line, *HEAD[1:], *DEEDS])
            self.bad(1, [line, "x"])
        for power in range(1, 6):
            self.same(read_record("\n".join([f"power {power}", *HEAD[1:]])).power, power)

    def test_the_start(self):
        for line in ("start", "Start 0,0", "start0,0", " start 0,0", "start  0,0", "start 0,0 ", "start 0,0 1,0",
                     "begin 0,0", "0,0", *["start " + text for text in BAD_CELLS]):
            self.bad(2, [HEAD[0], line, *HEAD[2:], *DEEDS])
            self.bad(2, [HEAD[0], line, "x"])

    def test_lines_of_cells(self):
        for at, word in ((2, "board"), (3, "out"), (4, "before")):
            for cells in ("0,0 0,0", "1,0 0,0", "0,1 0,0", "0,0  1,0", " 0,0", "0,0 ", "0,0 1,0 ", "0,0,1,0", "0,0 1,0 1,0",
                          "-1,0 -2,0", "1,0 0,0 2,0", "2,0 10,0 9,0", "0,0\t1,0", "open ", "Open", "opened", "open 0,0",
                          "0,0 open", *BAD_CELLS, *["-5,-5 " + text for text in BAD_CELLS]):
                lines = [*HEAD, *DEEDS]
                lines[at] = f"{word} {cells}"
                self.bad(at + 1, lines)
            for line in (word.upper(), word + ",", " " + word, "x", "", word + "0,0", word + "\t0,0", word[:-1],
                         "0,0", "0,0 1,0", "-1,0 0,0 1,0 2,0 3,0"):
                lines = [*HEAD, *DEEDS]
                lines[at] = line
                self.bad(at + 1, lines)
        # A board without cells and ways out that are open are not of this form.
        self.bad(3, [*HEAD[:2], "board", *HEAD[3:]])
        self.bad(4, [*HEAD[:3], "out open", HEAD[4]])
        self.bad(5, [*HEAD[:4], "before open"])

    def test_lines_of_deeds(self):
        for line in ("", " ", "strike", "move", "strike ", "strike0,0", "strike  0,0", "strike 0,0 ", " strike 0,0",
                     "strike 0,0 1,0", "Strike 0,0", "moves 0,0", "penned 0,0", "away", "0,0", "undo", "strike\t0,0",
                     "strike 0,0\r", *["strike " + text for text in BAD_CELLS], *["move " + text for text in BAD_CELLS]):
            self.bad(6, [*HEAD, line])
            self.bad(6, [*HEAD, line, *DEEDS, "x"])
            self.bad(9, [*HEAD, *DEEDS[:3], line, DEEDS[3]])
        # A newline at the end is followed by one more line, which is empty.
        self.bad(6, [*HEAD, ""])
        self.bad(10, [*HEAD, *DEEDS, ""])

    def test_lines_are_separated_by_newlines_alone(self):
        for sign in ("\r", "\u2028", "\x0b", "\x0c", "\x1c", "\x85", "\r\n"):
            self.refused(BadText, {"line": 1}, read_record, sign.join([*HEAD, *DEEDS]))
        self.refused(BadText, {"line": 1}, read_record, "\n".join([*HEAD, *DEEDS]).replace("\n", "\r\n"))

    def test_the_first_bad_line_is_told_before_all_other_errors(self):
        # The cells would make the board too great, the start off the board, and the deed refused.
        board = cells_line("board", [*GRID, (40, 0)])
        self.bad(7, ["power 1", "start 50,50", board, "out 60,60", "before", "strike 99,99", "x"])
        self.bad(5, ["power 1", "start 50,50", board, "out 60,60", "before 1,1 1,0", "strike 99,99", "x"])


class RefusedGamesTest(PlayCase):
    def refused_lines(self, error, fields, lines):
        self.refused(error, fields, read_record, "\n".join(lines))

    def test_the_board(self):
        board = cells_line("board", [*GRID, (40, 0)])
        self.refused_lines(TooMany, {"most": 800}, ["power 1", "start 50,50", board, "out 60,60", "before", "move 0,0"])
        board = cells_line("board", GRID)
        self.same(len(read_record("\n".join(["power 1", "start 0,0", board, "out", "before"])).board), 800)

    def test_what_the_game_raises(self):
        many = [(x, y) for x in range(3) for y in range(-120, 121)] + [(3, y) for y in range(78)]
        end = ["strike 99,99"]
        self.refused_lines(TooMany, {"most": 800}, [*HEAD[:3], cells_line("out", many), "before 9,9", *end])
        self.refused_lines(TooMany, {"most": 800}, ["power 1", "start -1,0", "board open", "out", cells_line("before", many)])
        self.refused_lines(OffBoard, {"cell": (9, 9)}, ["power 1", "start 9,9", *HEAD[2:], *end])
        self.refused_lines(OffBoard, {"cell": (7, 7)}, [*HEAD[:3], "out 0,0 7,7 8,8", "before 9,9", *end])
        self.refused_lines(OffBoard, {"cell": (0, 0)}, [*HEAD[:2], "board open", "out 0,0", "before", *end])
        self.refused_lines(OffBoard, {"cell": (9, 9)}, [*HEAD[:4], "before 0,0 9,9", *end])
        self.refused_lines(Occupied, {"cell": (1, 0)}, [*HEAD[:3], "out 1,0", "before 1,0", *end])
        self.refused_lines(AlreadyStruck, {"cell": (1, 0)}, [*HEAD[:4], "before 1,0 2,0", *end])

    def refused_deed(self, line, cause, fields, lines):
        """The deed is refused, and the error is raised from that of the deed."""
        with self.assertRaises(BadDeed) as caught:
            read_record("\n".join(lines))
        self.assertIs(type(caught.exception), BadDeed)
        self.assertEqual(vars(caught.exception), {"line": line})
        self.assertIs(type(caught.exception.__cause__), cause)
        self.assertEqual(vars(caught.exception.__cause__), fields)

    def test_deeds_that_are_refused(self):
        self.refused_deed(6, WrongPhase, {"phase": "strike"}, [*HEAD, "move 2,0", "strike 2,0"])
        self.refused_deed(7, WrongPhase, {"phase": "move"}, [*HEAD, "strike 2,0", "strike 0,0", "strike 0,0"])
        self.refused_deed(6, OffBoard, {"cell": (9, 9)}, [*HEAD, "strike 9,9", "move 9,9"])
        self.refused_deed(6, Occupied, {"cell": (1, 0)}, [*HEAD, "strike 1,0"])
        self.refused_deed(6, AlreadyStruck, {"cell": (3, 0)}, [*HEAD, "strike 3,0"])
        self.refused_deed(7, AlreadyStruck, {"cell": (3, 0)}, [*HEAD, "strike 2,0", "move 3,0"])
        self.refused_deed(7, TooFar, {"cell": (-1, 0)}, ["power 1", *HEAD[1:], "strike 2,0", "move -1,0"])
        self.refused_deed(10, WrongPhase, {"phase": "away"}, [*HEAD, *DEEDS, "strike 0,0", "strike 0,0"])
        self.refused_deed(6, WrongPhase, {"phase": "penned"}, ["power 1", "start 0,0", "board 0,0", "out", "before",
                                                              "strike 0,0"])

    def test_too_many_strikes(self):
        plain = PlainGame(1)
        plain.deeds = shuttle(1201)
        lines = plain_lines(plain)
        self.refused_deed(2406, TooMany, {"most": 1200}, lines)
        self.same(read_record("\n".join(lines[:2405])).turn, 1200)

    def test_the_length(self):
        text = "\n".join([*HEAD, *DEEDS, "strike 0,0"])
        many = (80000 - len(text)) // 11
        most = text + "\nstrike 0,0" * many
        most += "\n" + "x" * (80000 - len(most) - 1)
        self.same(len(most), 80000)
        self.refused(BadText, {"line": 11 + many}, read_record, most)
        self.refused(TooMany, {"most": 80000}, read_record, most + "x")
        self.refused(TooMany, {"most": 80000}, read_record, "x" * 80001)
        self.refused(BadText, {"line": 1}, read_record, "x" * 80000)
        self.refused(BadText, {"line": 1}, read_record, "\n" * 80000)
        self.refused_deed(10, WrongPhase, {"phase": "away"}, most.split("\n")[:10 + many])
        # A board of more cells than allowed, in a text of the greatest length.
        row = [f"{x},{y}" for x in range(-120, -20) for y in range(-120, 121)]
        for pad in range(20):
            lines = ["power 1", "start 0,0", " ".join(["board", *row[:8000]])[:79950 - pad], "out", "before"]
            if lines[2][-1].isdigit() and "," in lines[2].rpartition(" ")[2]:
                self.refused(TooMany, {"most": 800}, read_record, "\n".join(lines))


if __name__ == "__main__":
    unittest.main()
