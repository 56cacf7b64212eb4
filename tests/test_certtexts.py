import unittest

from games import games
from support import FAR, PlayCase
from test_journals import EXAMPLE

from neverpenned.certificates import BankCertificate, bank_certificate
from neverpenned.certtexts import certificate_text, read_certificate
from neverpenned.errors import BadCell, BadText, TooMany
from neverpenned.runners import BankRunner

LINES = ["extra 0,2 0,1", "stream -1,1 0,1 1,1", "stream", "stream 0,1", "ground 0,2 0,1", "ground 5,5 -121,121",
         "excuse 3,3 3,4", "excuse 0,0 0,0"]
PARTS = ([(0, 2), (0, 1)], [[(-1, 1), (0, 1), (1, 1)], [], [(0, 1)]], [((0, 2), (0, 1)), ((5, 5), (-121, 121))],
         [((3, 3), (3, 4)), ((0, 0), (0, 0))])
BAD_CELLS = ("", "0", "0,", ",0", "0,0,0", "+1,0", "01,0", "-0,0", "0,-0", "1.0,2", "x,y", "122,0", "0,-122", "-122,0",
             "0,122", "\u0661,0", "1_0,0", "(0,0)", "0;0", "0" * 30 + ",0", "--1,0", "9" * 5000 + ",0", "0,0\t", "0,0\r")


def plain_lines(certificate):
    """The lines of the text of the certificate, by the words of the document."""
    rows = [("extra", certificate.extra), *[("stream", cells) for cells in certificate.streams],
            *[("ground", pair) for pair in certificate.grounds], *[("excuse", pair) for pair in certificate.excuses]]
    return [" ".join([word, *[f"{x},{y}" for x, y in cells]]) for word, cells in rows]


def fields(certificate):
    return (certificate.extra, certificate.streams, certificate.grounds, certificate.excuses)


class CertificateTextTest(PlayCase):
    def test_texts(self):
        self.same(certificate_text(BankCertificate([], [], [], [])), "extra")
        self.same(certificate_text(BankCertificate(*PARTS)), "\n".join(LINES))
        self.same(certificate_text(BankCertificate([(0, 0)], [[], []], [], [((1, 2), (-3, -4))])),
                  "extra 0,0\nstream\nstream\nexcuse 1,2 -3,-4")

    def test_certificates_of_runners(self):
        for runner in games()[::5]:
            for turn in (1, 2, 9, 36):
                certificate = runner.certificate_at(turn)
                kept = fields(certificate)
                text = certificate_text(certificate)
                self.same(text.split("\n"), plain_lines(certificate))
                self.same(fields(certificate), kept)
                self.same(fields(read_certificate(text)), kept)

    def test_the_rim(self):
        cells = [(121, 121), (-121, -121), (121, -121), (-121, 0)]
        certificate = BankCertificate(cells, [cells], [tuple(cells[:2])], [tuple(cells[2:])])
        self.same(certificate_text(certificate), "extra 121,121 -121,-121 121,-121 -121,0\n"
                  "stream 121,121 -121,-121 121,-121 -121,0\nground 121,121 -121,-121\nexcuse 121,-121 -121,0")

    def test_cells_too_far_away(self):
        bad = [(122, 0), (0, 122), (-122, 0), (0, -122), (FAR, 0), (0, -FAR)]
        for cell in bad:
            for certificate in (BankCertificate([(0, 0), cell, (200, 0)], [[(300, 0)]], [], []),
                                BankCertificate([], [[(0, 0)], [(1, 1), cell]], [((300, 0), (0, 0))], []),
                                BankCertificate([], [[]], [((0, 0), (1, 1)), ((0, 0), cell)], [((300, 0), (0, 0))]),
                                BankCertificate([(0, 0)], [], [], [((0, 0), (1, 1)), (cell, (400, 0))])):
                self.refused(BadCell, {"cell": cell}, certificate_text, certificate)


class ReadCertificateTest(PlayCase):
    def test_certificates(self):
        certificate = read_certificate("\n".join(LINES))
        self.assertIs(type(certificate), BankCertificate)
        self.same(fields(certificate), (tuple(PARTS[0]), tuple(tuple(cells) for cells in PARTS[1]), tuple(PARTS[2]),
                                        tuple(PARTS[3])))
        self.same(fields(read_certificate("extra")), ((), (), (), ()))
        for lines in (["extra", "ground 0,0 1,1"], ["extra", "excuse 0,0 1,1"], ["extra 0,0", "stream", "excuse 0,0 1,1"],
                      ["extra 0,0 0,0 -1,-1", "stream 1,1 1,1", "ground 121,0 0,-121"]):
            self.same(certificate_text(read_certificate("\n".join(lines))), "\n".join(lines))

    def test_a_certificate_that_is_read_goes_on(self):
        runner = BankRunner.played(EXAMPLE)
        certificate = read_certificate(certificate_text(runner.certificate_at(3)))
        self.same(certificate.extra, ((0, 2), (0, 4)))
        self.same(fields(certificate), fields(bank_certificate(runner.struck_by(3), runner.barred_at(3))))

    def bad(self, line, lines):
        self.refused(BadText, {"line": line}, read_certificate, "\n".join(lines))

    def test_spoilt_lines(self):
        self.bad(1, [""])
        for at, line in enumerate(LINES):
            for other in ("", " ", line + " ", " " + line, line.upper(), line.replace(" ", "  ", 1), "x", line[1:],
                          line.replace(" ", ",", 1), line.replace(",", ", "), line + "\r", line.replace(" ", "\t")):
                if other != line:
                    self.bad(at + 1, [*LINES[:at], other, *LINES[at + 1:]])
            for text in BAD_CELLS:
                self.bad(at + 1, [*LINES[:at], f"{line} {text}", *LINES[at + 1:]])
                self.bad(at + 1, [*LINES[:at], f"{line.partition(' ')[0]} {text} 0,0", *LINES[at + 1:]])
        # Pairs have two cells.
        for word in ("ground", "excuse"):
            for cells in ("", " 0,0", " 0,0 1,1 2,2", " 0,0 1,1 2,2 3,3"):
                self.bad(3, ["extra", f"{word} 0,0 1,1", word + cells, f"{word} 0,0 1,1"])
        # A newline at the end is followed by one more line, which is empty.
        self.bad(9, [*LINES, ""])
        self.bad(2, ["extra", ""])

    def test_lines_at_wrong_places(self):
        self.bad(1, LINES[1:])
        self.bad(2, [LINES[0], *LINES])
        self.bad(9, [*LINES, LINES[0]])
        first = {"extra": 0, "stream": 1, "ground": 4, "excuse": 6}
        order = list(first)
        for word in order:
            for other in order:
                lines = ["extra"] + ([LINES[first[word]]] if word != "extra" else []) + [LINES[first[other]]]
                if order.index(other) >= order.index(word) and other != "extra":
                    self.same(certificate_text(read_certificate("\n".join(lines))), "\n".join(lines))
                else:
                    self.bad(len(lines), lines)
                    self.bad(len(lines), [*lines, "x"])
        for word in ("turn 0,0 0,1", "code 0", "extras", "streams 0,0", "grounds 0,0 1,1"):
            self.bad(1, [word])
            self.bad(5, [*LINES[:4], word, *LINES[4:]])

    def test_lines_are_separated_by_newlines_alone(self):
        for sign in ("\r", "\u2028", "\x0b", "\x1c", "\x85", " "):
            self.bad(1, [sign.join(LINES)])

    def test_the_length(self):
        most = "\n".join(["extra", *["excuse 0,0 1,1"] * 66665])
        most += " " * (1000000 - len(most))
        self.same(len(most), 1000000)
        self.refused(BadText, {"line": 66666}, read_certificate, most)
        self.refused(TooMany, {"most": 1000000}, read_certificate, most + " ")
        self.refused(TooMany, {"most": 1000000}, read_certificate, "x" * 1000001)
        self.refused(BadText, {"line": 1}, read_certificate, "x" * 1000000)
        self.refused(TooMany, {"most": 10000}, read_certificate, most.rstrip(" "))

    def test_what_the_class_raises(self):
        extra = " ".join(["extra", *["-121,-121"] * 10000])
        streams = ["stream " + " ".join(["-121,-121"] * 25000)]
        pairs = ["ground -121,-121 -121,-121"] * 10000 + ["excuse -121,-121 -121,-121"] * 10000
        text = "\n".join([extra, *streams, *pairs])
        self.assertLess(len(text), 1000000)
        certificate = read_certificate(text)
        self.same([len(cells) for cells in fields(certificate)], [10000, 1, 10000, 10000])
        self.same(certificate_text(certificate) == text, True)
        self.refused(TooMany, {"most": 10000}, read_certificate, "\n".join([extra + " 0,0", *["stream"] * 401]))
        self.refused(TooMany, {"most": 400}, read_certificate, "\n".join(["extra", *["stream"] * 401]))
        self.same(len(read_certificate("\n".join(["extra", *["stream"] * 400])).streams), 400)
        self.refused(TooMany, {"most": 25000}, read_certificate, "\n".join(["extra", *streams, "stream 0,0"]))
        self.refused(TooMany, {"most": 10000}, read_certificate, "\n".join(["extra", *["ground 0,0 0,0"] * 10001]))
        self.refused(TooMany, {"most": 10000}, read_certificate, "\n".join(["extra", *["excuse 0,0 0,0"] * 10001]))
        # A bad line comes first.
        self.refused(BadText, {"line": 403}, read_certificate, "\n".join([extra + " 0,0", *["stream"] * 401, "x"]))


if __name__ == "__main__":
    unittest.main()
