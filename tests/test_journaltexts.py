import unittest

from games import games, plain_image
from support import FAR, PlayCase
from test_certtexts import BAD_CELLS, LINES, PARTS, plain_lines
from test_journals import EMPTY, EXAMPLE, parts

from neverpenned.certificates import BankCertificate
from neverpenned.certtexts import certificate_text, read_certificate
from neverpenned.errors import BadCell, BadNumber, BadText, TooMany
from neverpenned.journals import Entry, first_bad_turn, journal
from neverpenned.journaltexts import journal_text, read_journal
from neverpenned.runners import BankRunner

TEXT = ["code 3", "turn 0,2 0,1", *LINES, "turn -121,121 7,7", "extra", "turn 1,1 1,1", "extra 0,0", "excuse 0,0 1,1"]
GREAT = BankCertificate([(-121, -121)] * 10000, [[(-121, -121)] * 25000], [((-121, -121),) * 2] * 10000, [])


def plain_text(entries, code):
    lines = [f"code {code}"]
    for entry in entries:
        (a, b), (c, d) = entry.hit, entry.landing
        lines += [f"turn {a},{b} {c},{d}", *plain_lines(entry.certificate)]
    return "\n".join(lines)


class JournalTextTest(PlayCase):
    def test_journals_of_runners(self):
        for runner in games()[::6]:
            entries = journal(runner)
            kept = [parts(entry) for entry in entries]
            text = journal_text(entries, runner.code)
            self.same(text, plain_text(entries, runner.code))
            code, told = read_journal(text)
            self.same((code, [parts(entry) for entry in told]), (runner.code, kept))
            self.same((first_bad_turn(told, code), [parts(entry) for entry in entries]), (None, kept))

    def test_texts(self):
        self.same(journal_text([]), "code 0")
        self.same(journal_text((), 7), "code 7")
        entries = [Entry((0, 2), (0, 1), BankCertificate(*PARTS)), Entry((-121, 121), (7, 7), EMPTY),
                   Entry((1, 1), (1, 1), BankCertificate([(0, 0)], [], [], [((0, 0), (1, 1))]))]
        self.same(journal_text(entries, 3), "\n".join(TEXT))
        for code in range(8):
            runner = BankRunner.played([plain_image(code, cell) for cell in EXAMPLE], code)
            self.same(journal_text(journal(runner), code).split("\n")[0], f"code {code}")

    def test_cells_too_far_away(self):
        bad = [(122, 0), (0, 122), (-122, 0), (0, -122), (FAR, 0), (0, -FAR)]
        worse = Entry((0, 0), (300, 0), EMPTY)
        for cell in bad:
            for entry in (Entry(cell, (300, 0), GREAT), Entry((0, 0), cell, BankCertificate([(300, 0)], [], [], [])),
                          Entry((0, 0), (1, 1), BankCertificate([cell], [[(300, 0)]], [], [])),
                          Entry((0, 0), (1, 1), BankCertificate([], [[(0, 0), cell]], [((300, 0), (0, 0))], [])),
                          Entry((0, 0), (1, 1), BankCertificate([], [], [((0, 0), cell)], [((300, 0), (0, 0))])),
                          Entry((0, 0), (1, 1), BankCertificate([], [], [], [((0, 0), cell)]))):
                self.refused(BadCell, {"cell": cell}, journal_text, [Entry((0, 0), (0, 1), EMPTY), entry, worse], 8)

    def test_the_order_of_the_checks(self):
        self.refused(TooMany, {"most": 36}, journal_text, [Entry((FAR, 0), (0, 0), EMPTY)] * 37, 8)
        for code in (-1, 8, FAR, -FAR):
            self.refused(BadNumber, {"number": code}, journal_text, [], code)
            self.refused(BadNumber, {"number": code}, journal_text, [Entry((0, 0), (0, 1), GREAT)] * 4, code)
        self.same(journal_text([Entry((0, 0), (0, 1), EMPTY)] * 36).count("\n"), 72)

    def test_the_greatest_text(self):
        entries = [Entry((0, 0), (0, 1), GREAT)] * 3
        room = 2000000 - len(journal_text(entries))
        # A further entry fills the room: its lines have 26 characters and 8 or 9 for each cell.
        many, rest = divmod(room - 26, 8)
        filler = [(-100, -10)] * rest + [(-10, -10)] * (many - rest)
        full = Entry((0, 0), (0, 1), BankCertificate([], [filler], [], []))
        text = journal_text([*entries, full])
        self.same(len(text), 2000000)
        longer = Entry((0, 0), (0, 1), BankCertificate([], [[*filler[:-1], (-100, -10)]], [], []))
        self.refused(TooMany, {"most": 2000000}, journal_text, [*entries, longer])
        code, told = read_journal(text)
        self.same((code, len(told), parts(told[3]) == parts(full), parts(told[0]) == parts(entries[0])), (0, 4, True, True))
        self.refused(TooMany, {"most": 2000000}, read_journal, text + "0")
        self.refused(BadText, {"line": text.count("\n") + 1}, read_journal, text[:-1] + " ")


class ReadJournalTest(PlayCase):
    def test_journals(self):
        told = read_journal("\n".join(TEXT))
        self.same((type(told), len(told), told[0], type(told[1])), (tuple, 2, 3, list))
        self.assertIs(type(told[1][0]), Entry)
        self.assertIs(type(told[1][0].certificate), BankCertificate)
        self.same([parts(entry) for entry in told[1]], [
            ((0, 2), (0, 1), tuple(PARTS[0]), tuple(tuple(cells) for cells in PARTS[1]), tuple(PARTS[2]), tuple(PARTS[3])),
            ((-121, 121), (7, 7), (), (), (), ()), ((1, 1), (1, 1), ((0, 0),), (), (), (((0, 0), (1, 1)),))])
        for code in range(8):
            self.same(read_journal(f"code {code}"), (code, []))
        self.same(journal_text(told[1], told[0]), "\n".join(TEXT))

    def bad(self, line, lines):
        self.refused(BadText, {"line": line}, read_journal, "\n".join(lines))

    def test_the_first_line(self):
        for line in ("", "code", "code ", "code 8", "code -1", "code 00", "code 1 ", " code 1", "Code 1", "code  1", "code1",
                     "1", "turn 0,0 0,1", "extra", "code \u0661", "code 1\r"):
            self.bad(1, [line])
            self.bad(1, [line, *TEXT[1:], "x"])
        self.bad(2, [TEXT[0], *TEXT])
        self.bad(2, [TEXT[0], ""])

    def test_spoilt_lines(self):
        for at, line in enumerate(TEXT):
            for other in ("", " ", line + " ", " " + line, line.upper(), line.replace(" ", "  ", 1), "x", line[1:],
                          line.replace(" ", ",", 1), line.replace(",", ", "), line + "\r", line.replace(" ", "\t")):
                if other != line:
                    self.bad(at + 1, [*TEXT[:at], other, *TEXT[at + 1:]])
            if at:
                for text in BAD_CELLS:
                    self.bad(at + 1, [*TEXT[:at], f"{line} {text}", *TEXT[at + 1:]])
                    self.bad(at + 1, [*TEXT[:at], f"{line.partition(' ')[0]} {text} 0,0", *TEXT[at + 1:]])
        for cells in ("", " 0,0", " 0,0 1,1 2,2"):
            self.bad(2, ["code 0", "turn" + cells, "extra"])
            self.bad(4, ["code 0", "turn 0,0 0,1", "extra", "turn" + cells])
        self.bad(len(TEXT) + 1, [*TEXT, ""])

    def test_lines_left_out(self):
        # Without a line `turn` or `extra`, the next line that is there cannot come after the one before.
        for at in range(1, len(TEXT)):
            left = TEXT[:at] + TEXT[at + 1:]
            if TEXT[at].startswith("extra"):
                self.bad(at + 1, left)
            elif TEXT[at].startswith("turn"):
                self.bad(at + 1, left)
            else:
                self.same(journal_text(*read_journal("\n".join(left))[::-1]), "\n".join(left))

    def test_a_missing_certificate(self):
        self.bad(3, ["code 0", "turn 0,0 0,1"])
        self.bad(len(TEXT) + 2, [*TEXT, "turn 0,0 0,1"])
        self.bad(3, ["code 0", "turn 0,0 0,1", "turn 0,0 0,1", "extra"])
        # The line itself is bad.
        for line in ("turn 0,0", "turn ", "turn 0,0 0,122", "turn 0,0 0,1 "):
            self.bad(2, ["code 0", line])
        self.refused(BadText, {"line": 75}, read_journal, "code 0" + "\nturn 0,0 0,1\nextra" * 36 + "\nturn 0,0 0,1")

    def test_lines_at_wrong_places(self):
        samples = {"code": "code 0", "turn": "turn 0,0 0,1", "extra": "extra 5,5", "stream": "stream 0,0 1,0",
                   "ground": "ground 0,0 1,0", "excuse": "excuse 0,0 1,0"}
        right = {"code": ["turn"], "turn": ["extra"], "extra": ["stream", "ground", "excuse", "turn"],
                 "stream": ["stream", "ground", "excuse", "turn"], "ground": ["ground", "excuse", "turn"],
                 "excuse": ["excuse", "turn"]}
        for word in samples:
            lines = [samples[name] for name in ("code", "turn", "extra", "stream", "ground", "excuse")]
            lines = lines[:list(samples).index(word) + 1]
            for other in samples:
                added = [*lines, samples[other], *(["extra"] if other == "turn" else [])]
                if other in right[word]:
                    self.same(journal_text(*read_journal("\n".join(added))[::-1]), "\n".join(added))
                else:
                    self.bad(len(lines) + 1, added)

    def test_the_number_of_entries(self):
        text = "code 5" + "\nturn 0,0 0,1\nextra 0,0\nstream" * 36
        self.same(len(read_journal(text)[1]), 36)
        self.refused(TooMany, {"most": 36}, read_journal, text + "\nturn 0,0 0,1\nextra")
        self.refused(BadText, {"line": 112}, read_journal, text + "\nturn 0,0 0,1\nextra\nx")
        # Too many entries come before a certificate that is too great.
        self.refused(TooMany, {"most": 36}, read_journal, text + "\nturn 0,0 0,1\nextra" + "\nstream" * 401)
        self.refused(TooMany, {"most": 400}, read_journal, "code 0\nturn 0,0 0,1\nextra" + "\nstream" * 401)

    def test_what_the_class_raises_for_the_first_entry(self):
        streams, pairs = "\nstream" * 401, "\nground 0,0 1,1" * 10001
        start = "\nturn 0,0 0,1\nextra"
        self.refused(TooMany, {"most": 400}, read_journal, "code 0" + start + start + streams + start + pairs)
        self.refused(TooMany, {"most": 10000}, read_journal, "code 0" + start + start + pairs + start + streams)
        self.refused(TooMany, {"most": 400}, read_journal, "code 0" + start + streams + pairs)

    def test_a_certificate_of_more_characters_than_one_alone_may_have(self):
        # Its text has more than 1000000 characters, and too many pairs.
        text = "code 0\nturn 0,0 0,1\nextra" + "\nexcuse 0,0 1,1" * 70000
        self.assertGreater(len(text), 1000000)
        self.refused(TooMany, {"most": 10000}, read_journal, text)
        self.refused(BadText, {"line": 70004}, read_journal, text + "\nx")

    def test_the_length(self):
        self.refused(TooMany, {"most": 2000000}, read_journal, "x" * 2000001)
        self.refused(BadText, {"line": 1}, read_journal, "x" * 2000000)
        self.refused(BadText, {"line": 2}, read_journal, "code 0" + "\n" * 1999994)

    def test_certificates_are_read_as_alone(self):
        certificate = read_certificate("\n".join(LINES))
        self.same(certificate_text(read_journal("\n".join(TEXT))[1][0].certificate), certificate_text(certificate))


if __name__ == "__main__":
    unittest.main()
