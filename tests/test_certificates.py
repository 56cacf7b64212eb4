import unittest

from support import FAR, PlainBasin, PlayCase, other_streams, scattered, sides_at, small_lists

from neverpenned.basins import Basin
from neverpenned.bestbanks import best_bank
from neverpenned.certificates import BankCertificate, bank_certificate, judge_bank
from neverpenned.errors import BadCell, TooMany
from neverpenned.plainbanks import best_banks

MANY = [(at // 20, at % 20) for at in range(301)]
TALL = [(39, -120), (0, 120)]


def parts(certificate):
    return (certificate.extra, certificate.streams, certificate.grounds, certificate.excuses)


def right(struck, barred, extra, streams, grounds, excuses):
    """Whether the certificate is right, condition by condition, by the words of the document."""
    plain = PlainBasin(struck, barred)
    if len(set(extra)) != len(extra) or not set(extra) <= plain.open:
        return False
    if not plain.is_valid(streams) or len(streams) != plain.cut_size(extra):
        return False
    steps, firsts = plain.rest_steps(streams), [cells[0] for cells in streams]
    for at, (cell, other) in enumerate(grounds):
        known = cell in plain.sources and cell in extra or cell in [pair[1] for pair in grounds[:at]]
        shore = cell[0] == -1 and cell[1] in plain.rows and other == (0, cell[1]) and cell not in firsts
        if other not in extra or not (known and other in steps.get(cell, []) or shore):
            return False
    for at, (cell, other) in enumerate(excuses):
        if other not in steps.get(cell, []):
            return False
        if not (plain.is_exit(cell, other) or other in [pair[0] for pair in excuses[:at]]):
            return False
    return (all(cell in plain.sources or cell in [pair[1] for pair in grounds] for cell in extra)
            and all(cell in extra or cell in [pair[0] for pair in excuses] for cell in plain.sources))


class CertificateCase(PlayCase):
    def judged(self, struck, barred, certificate, wanted):
        self.same(judge_bank(struck, barred, certificate), wanted)
        self.same(right(struck, barred, *parts(certificate)), wanted)

    def judge(self, struck, barred, extra, streams, grounds, excuses, wanted):
        self.judged(struck, barred, BankCertificate(extra, streams, grounds, excuses), wanted)


class ClassTest(PlayCase):
    def test_fields(self):
        certificate = BankCertificate([(0, 0), (0, 0)], [[(-1, 0), (FAR, 0)], [], ((1, 1),)], [((0, 0), (1, -FAR))],
                                      (((5, 5), (5, 5)), ((2, 2), (3, 3))))
        self.same(certificate.extra, ((0, 0), (0, 0)))
        self.same(certificate.streams, (((-1, 0), (FAR, 0)), (), ((1, 1),)))
        self.same(certificate.grounds, (((0, 0), (1, -FAR)),))
        self.same(certificate.excuses, (((5, 5), (5, 5)), ((2, 2), (3, 3))))
        self.same(parts(BankCertificate(extra=(), streams=(), grounds=(), excuses=())), ((), (), (), ()))

    def test_lists_are_copied(self):
        extra, streams, grounds, excuses = [(0, 0)], [[(-1, 0), (0, 0)]], [((0, 0), (0, 1))], [((1, 1), (1, 2))]
        certificate = BankCertificate(extra, streams, grounds, excuses)
        streams[0].append((9, 9))
        for told in (extra, streams, grounds, excuses):
            told.clear()
        self.same(parts(certificate), (((0, 0),), (((-1, 0), (0, 0)),), (((0, 0), (0, 1)),), (((1, 1), (1, 2)),)))

    def test_the_lengths(self):
        cells, pairs = [(0, 0)] * 10000, [((0, 0), (0, 1))] * 10000
        streams = [[(0, 0)] * 62] * 399 + [[(0, 0)] * 262]
        certificate = BankCertificate(cells, streams, pairs, pairs)
        self.same([len(part) for part in parts(certificate)], [10000, 400, 10000, 10000])
        many, all_pairs = [[(0, 0)] * 25001], [*pairs, pairs[0]]
        self.refused(TooMany, {"most": 10000}, BankCertificate, [*cells, (0, 0)], [[]] * 401, all_pairs, all_pairs)
        self.refused(TooMany, {"most": 400}, BankCertificate, cells, [[(0, 0)] * 70] * 401, all_pairs, all_pairs)
        self.refused(TooMany, {"most": 25000}, BankCertificate, cells, many, all_pairs, all_pairs)
        self.refused(TooMany, {"most": 25000}, BankCertificate, [], [*streams[:399], [(0, 0)] * 263], [], [])
        self.refused(TooMany, {"most": 10000}, BankCertificate, [], [], all_pairs, [])
        self.refused(TooMany, {"most": 10000}, BankCertificate, [], [], [], all_pairs)


class RightCertificatesTest(CertificateCase):
    def check(self, struck, barred=()):
        certificate = bank_certificate(struck, barred)
        self.assertIs(type(certificate), BankCertificate)
        for part in parts(certificate):
            self.assertIs(type(part), tuple)
        for told in (*certificate.streams, *certificate.grounds, *certificate.excuses):
            self.assertIs(type(told), tuple)
            self.assertTrue(all(type(cell) is tuple and list(map(type, cell)) == [int, int] for cell in told))
        self.same(certificate.extra, best_bank(struck, barred).extra)
        self.judged(struck, barred, certificate, True)
        return certificate

    def test_few_cells(self):
        self.same(parts(self.check([])), ((), (), (), ()))
        self.same(parts(self.check([(40, 0), (-1, 3)], [(0, 0)])), ((), (), (), ()))
        self.same(parts(self.check([(3, 3)], [(3, 3)])), ((), (), (), ()))
        self.same(self.check([(0, 0)]).extra, ((0, 0),))
        self.same(self.check([(1, 0)]).excuses[-1][0], (1, 0))
        self.same([pair[1] for pair in self.check([(0, 0), (0, 3)]).grounds] in ([(0, 1), (0, 2)], [(0, 2), (0, 1)]),
                  True)

    def test_small_lists(self):
        for struck, barred in small_lists(200, seed=27):
            self.check(struck, barred)
            self.check(struck[::-1] * 2, tuple(barred[::-1] * 2))

    def test_lists_of_middle_size(self):
        numbers = scattered(2400, 150, seed=28)
        for at in range(0, 2400, 60):
            cells = [(n // 15, n % 15 - 7) for n in numbers[at:at + 60]]
            self.check(cells[:at // 60 % 37], cells[37:37 + at // 60 % 23])

    def test_columns_and_rows_at_the_rim(self):
        self.check([(39, 120), (39, 119), (38, 120), (38, 119), (40, 120)])
        self.check([(0, 120), (0, -120)])
        self.check([(39, 120), (0, 120)], [(0, y) for y in range(100, 121)])

    def test_the_greatest_box(self):
        cells = [(n // 241, n % 241 - 120) for n in scattered(334, 9640, seed=2)]
        frame = [(0, -120), (0, 120), *[(x, 120) for x in range(1, 18)], *[(x, -120) for x in range(1, 18)]]
        for struck, barred in (([*TALL, *cells[:34]], []), ([*TALL, *cells[:34]], cells[34:]), (frame, [])):
            certificate = bank_certificate(struck, barred)
            self.same(judge_bank(struck, barred, certificate), True)
            self.same(certificate.extra, best_bank(struck, barred).extra)
            self.same(judge_bank(struck, [*barred[:299], (0, 0)], certificate), False)

    def test_results_are_new_and_lists_are_not_changed(self):
        struck, barred = [(0, 3), (0, 0), (2, 2), (0, 3)], [(1, 1), (5, 5), (1, 1)]
        certificate = bank_certificate(struck, barred)
        kept = parts(certificate)
        certificate.extra, certificate.streams = (), ()
        self.same(parts(bank_certificate(struck, barred)), kept)
        self.same(judge_bank(struck, barred, BankCertificate(*kept)), True)
        self.assertEqual((struck, barred), ([(0, 3), (0, 0), (2, 2), (0, 3)], [(1, 1), (5, 5), (1, 1)]))


class JudgeTest(CertificateCase):
    # Two cells in a row, both in the bank; all five streams can begin.
    PAIR = [(0, 0), (1, 0)]
    STREAMS = [[(-1, 0), (0, 0), (0, 1)], [(0, 0), (0, -1)], [(0, 0), (1, 0), (1, 1)], [(1, 0), (1, -1)],
               [(1, 0), (2, 0)]]
    # A block of two columns and three rows in which the cell (0, 1) alone is not struck.
    BLOCK = [(0, 0), (1, 0), (1, 1), (1, 2), (0, 2)]
    OUT = [[(0, 0), (0, -1)], [(1, 0), (1, -1)], [(1, 0), (2, 0)], [(1, 1), (2, 1)], [(1, 2), (2, 2)],
           [(1, 2), (1, 3)], [(0, 2), (0, 3)]]
    # A source away from the shore, with two cells between.
    LONE = [(3, 0)]
    LONE_STREAMS = [[(-1, 0), (0, 0), (0, 1)], [(3, 0), (4, 0)], [(3, 0), (3, 1)]]

    def test_the_cells_of_extra(self):
        self.judge(self.PAIR, [], self.PAIR, self.STREAMS, [], [], True)
        self.judge(self.PAIR, [], self.PAIR[::-1], self.STREAMS[::-1], [], [], True)
        for extra in ([*self.PAIR, (0, 0)], [*self.PAIR, (2, 0)], [*self.PAIR, (-1, 0)], [*self.PAIR, (FAR, 0)],
                      [*self.PAIR, (0, 1)]):
            self.judge(self.PAIR, [], extra, self.STREAMS, [], [], False)
        # They are a cut of the same size, but not the least best bank.
        self.judge(self.PAIR, [], [(0, 0)], self.STREAMS, [], [((1, 0), (1, 1))], False)
        self.judge(self.PAIR, [], [], self.STREAMS, [], [((0, 0), (1, 0)), ((1, 0), (2, 0))], False)
        self.judge(self.PAIR, [(1, 0)], self.PAIR, self.STREAMS, [], [], False)

    def test_a_barred_cell_in_extra(self):
        # With it the cut has one side less for each neighbour, and just as many streams can go out around it.
        ring = [(x, y) for x in range(3) for y in range(3) if (x, y) != (1, 1)]
        outs = [[(0, 0), (0, -1)], [(1, 0), (1, -1)], [(2, 0), (2, -1)], [(2, 0), (3, 0)], [(2, 1), (3, 1)],
                [(2, 2), (3, 2)], [(2, 2), (2, 3)], [(1, 2), (1, 3)], [(0, 2), (0, 3)]]
        self.judge(ring, [], [*ring, (1, 1)], outs, [((1, 0), (1, 1))], [], True)
        self.judge(ring, [(1, 1)], [*ring, (1, 1)], outs, [((1, 0), (1, 1))], [], False)
        self.judge(ring, [(1, 1)], ring, outs, [], [], False)
        inward = [[(x, y), (1, 1)] for x, y in ((0, 1), (1, 0), (1, 2), (2, 1))]
        self.judge(ring, [(1, 1)], ring, [*outs, *inward], [], [], True)

    def test_the_streams(self):
        for at in range(5):
            fewer = [*self.STREAMS[:at], *self.STREAMS[at + 1:]]
            self.judge(self.PAIR, [], self.PAIR, fewer, [], [], False)
            self.judge(self.PAIR, [], self.PAIR, [*self.STREAMS, self.STREAMS[at]], [], [], False)
            for cells in ([], self.STREAMS[at][:-1], self.STREAMS[at][1:], self.STREAMS[at - 1], [(FAR, 0), (FAR, 1)]):
                self.judge(self.PAIR, [], self.PAIR, [*fewer, cells], [], [], False)

    def test_grounds(self):
        extra = [*self.BLOCK, (0, 1)]
        self.judge(self.BLOCK, [], extra, self.OUT, [((1, 1), (0, 1))], [], True)
        self.judge(self.BLOCK, [], extra, self.OUT, [((0, 0), (0, 1))], [], True)
        # One that is missing, or that leads somewhere else, or that is no step.
        self.judge(self.BLOCK, [], extra, self.OUT, [], [], False)
        self.judge(self.BLOCK, [], extra, self.OUT, [((1, 1), (1, 2))], [], False)
        self.judge(self.BLOCK, [], extra, self.OUT, [((1, 0), (0, 1))], [], False)
        self.judge(self.BLOCK, [], extra, self.OUT, [((0, 1), (0, 1))], [], False)
        # Pairs that are not needed must be right, too.
        good = [((1, 1), (0, 1))]
        for pair in (((0, 1), (0, 0)), ((0, 1), (0, 2)), ((1, 1), (1, 0)), ((0, 0), (1, 0)), ((1, 1), (0, 1))):
            self.judge(self.BLOCK, [], extra, self.OUT, [*good, pair], [], True)
        for pair in (((1, 1), (2, 1)), ((0, 0), (0, -1)), ((0, 0), (1, 1)), ((5, 5), (0, 1)), ((FAR, 0), (0, 0)),
                     ((0, 0), (FAR, 0)), ((2, 1), (1, 1)), ((0, 0), (-1, 0))):
            self.judge(self.BLOCK, [], extra, self.OUT, [*good, pair], [], False)
            self.judge(self.BLOCK, [], extra, self.OUT, [pair, *good], [], False)

    def test_grounds_of_which_the_earlier_pair_comes_later(self):
        # Two cells that are not struck stand one behind the other.
        struck = [(1, 0), (2, 0), (2, 1), (2, 2), (1, 2), (0, 0), (0, 2)]
        outs = [[(0, 0), (0, -1)], [(1, 0), (1, -1)], [(2, 0), (2, -1)], [(2, 0), (3, 0)], [(2, 1), (3, 1)],
                [(2, 2), (3, 2)], [(2, 2), (2, 3)], [(1, 2), (1, 3)], [(0, 2), (0, 3)]]
        extra = [(x, y) for x in range(3) for y in range(3)]
        first, second = ((2, 1), (1, 1)), ((1, 1), (0, 1))
        self.judge(struck, [], extra, outs, [first, second], [], True)
        self.judge(struck, [], extra, outs, [second, first], [], False)
        self.judge(struck, [], extra, outs, [second, first, second], [], False)
        self.judge(struck, [], extra, outs, [first, first, second], [], True)
        self.judge(struck, [], extra, outs, [first], [], False)
        self.judge(struck, [], extra, outs, [second], [], False)
        self.judge(struck, [], extra, outs, [((-1, 1), (0, 1)), ((0, 1), (1, 1))], [], True)
        self.judge(struck, [], extra, outs, [((0, 1), (1, 1)), ((-1, 1), (0, 1))], [], False)

    def test_grounds_at_the_shore(self):
        extra = [*self.BLOCK, (0, 1)]
        self.judge(self.BLOCK, [], extra, self.OUT, [((-1, 1), (0, 1))], [], True)
        self.judge(self.BLOCK, [], extra, self.OUT, [((-1, 1), (0, 1)), ((-1, 0), (0, 0)), ((-1, 2), (0, 2))], [], True)
        for pair in (((-1, 1), (0, 0)), ((-1, 3), (0, 3)), ((-1, -1), (0, -1)), ((-2, 1), (0, 1)), ((-1, 1), (1, 1)),
                     ((-1, 1), (-1, 2)), ((0, 1), (-1, 1)), ((-1, FAR), (0, FAR))):
            self.judge(self.BLOCK, [], extra, self.OUT, [((1, 1), (0, 1)), pair], [], False)
        # A stream begins there.
        self.judge(self.PAIR, [], self.PAIR, self.STREAMS, [((-1, 0), (0, 0))], [], False)
        other = [[(-1, 1), (0, 1), (0, 0), (0, -1)], *self.OUT[1:]]
        self.judge(self.BLOCK, [], extra, other, [((1, 1), (0, 1))], [], True)
        self.judge(self.BLOCK, [], extra, other, [((-1, 1), (0, 1))], [], False)

    def test_a_step_that_a_stream_passes(self):
        extra = [*self.BLOCK, (0, 1)]
        other = [[(-1, 1), (0, 1), (0, 0), (0, -1)], *self.OUT[1:]]
        self.judge(self.BLOCK, [], extra, other, [((0, 0), (0, 1))], [], True)
        turned = [*self.OUT[:3], *self.OUT[4:], [(1, 1), (0, 1), (0, 2), (1, 2), (2, 2)]]
        self.judge(self.BLOCK, [], extra, turned, [((0, 0), (0, 1))], [], False)
        through = [*self.OUT[1:], [(1, 1), (0, 1), (0, 0), (0, -1)]]
        self.judge(self.BLOCK, [], extra, through, [((1, 1), (0, 1))], [], False)
        self.judge(self.BLOCK, [], extra, through, [((0, 0), (0, 1))], [], True)
        self.judge(self.BLOCK, [], extra, through, [((0, 2), (0, 1))], [], True)

    def test_excuses(self):
        lone = (self.LONE, [], [], self.LONE_STREAMS, [])
        self.judge(*lone, [((3, 0), (3, -1))], True)
        self.judge(*lone, [((2, 0), (2, 1)), ((3, 0), (2, 0))], True)
        self.judge(*lone, [((1, 0), (1, 1)), ((2, 0), (1, 0)), ((3, 0), (2, 0))], True)
        # One that is missing, that a stream passes, that begins at a cell that is not open, or that leads nowhere.
        self.judge(*lone, [], False)
        self.judge(*lone, [((2, 0), (2, 1))], False)
        self.judge(*lone, [((3, 0), (3, 1))], False)
        self.judge(*lone, [((3, 0), (4, 0))], False)
        self.judge(*lone, [((3, 0), (2, 0))], False)
        # An earlier pair that comes later.
        self.judge(*lone, [((3, 0), (2, 0)), ((2, 0), (2, 1))], False)
        self.judge(*lone, [((2, 0), (1, 0)), ((1, 0), (1, 1)), ((3, 0), (3, -1))], False)
        # Pairs that are not needed must be right, too.
        good = ((3, 0), (3, -1))
        for pair in (((2, 0), (3, 0)), ((1, 0), (1, 1)), ((0, 0), (0, -1)), ((3, 0), (3, -1))):
            self.judge(*lone, [good, pair], True)
        for pair in (((0, 0), (0, 1)), ((0, 0), (-1, 0)), ((4, 0), (5, 0)), ((1, 0), (0, 0)), ((-1, 0), (0, 0)),
                     ((1, 0), (1, 2)), ((FAR, 0), (FAR, 1)), ((1, 0), (FAR, 0))):
            self.judge(*lone, [good, pair], False)
            self.judge(*lone, [pair, good], False)

    def test_a_bank_that_is_too_large(self):
        # The cell (2, 0) is fed by nothing.
        self.judge([(0, 0), (2, 0)], [], [(0, 0)], [[(-1, 0), (0, 0), (0, 1)], [(0, 0), (0, -1)],
                   [(0, 0), (1, 0), (1, 1)], [(2, 0), (2, 1)], [(2, 0), (3, 0)]], [], [((2, 0), (2, -1))], True)
        for extra in ([(0, 0), (1, 0), (2, 0)], [(0, 0), (2, 0)], [(0, 0), (1, 0)], []):
            self.judge([(0, 0), (2, 0)], [], extra, [[(-1, 0), (0, 0), (0, 1)], [(0, 0), (0, -1)],
                       [(0, 0), (1, 0), (1, 1)], [(2, 0), (2, 1)], [(2, 0), (3, 0)]],
                       [((0, 0), (1, 0))], [((2, 0), (2, -1))], False)

    def test_basins_without_a_box(self):
        for struck, barred in (([], []), ([(40, 0)], [(0, 0)]), ([(0, 0)], [(0, 0)])):
            self.judge(struck, barred, [], [], [], [], True)
            self.judge(struck, barred, [(0, 0)], [], [], [], False)
            self.judge(struck, barred, [], [[(-1, 0), (0, 0)]], [], [], False)
            self.judge(struck, barred, [], [], [((-1, 0), (0, 0))], [], False)
            self.judge(struck, barred, [], [], [], [((0, 0), (0, 1))], False)

    def test_a_row_that_is_barred_at_the_shore(self):
        struck, barred = [(1, 0), (1, 2)], [(0, 1)]
        certificate = bank_certificate(struck, barred)
        self.judged(struck, barred, certificate, True)
        streams = [cells for cells in certificate.streams if cells != ((-1, 1), (0, 1))]
        self.assertEqual(len(streams) + 1, len(certificate.streams))
        self.judge(struck, barred, certificate.extra, streams, certificate.grounds, certificate.excuses, False)

    def test_only_the_least_best_bank_has_a_right_certificate(self):
        for struck, barred in small_lists(100, seed=29):
            certificate = bank_certificate(struck, barred)
            for bank in best_banks(struck, barred)[:6]:
                wanted = bank == best_bank(struck, barred)
                self.judge(struck, barred, bank.extra, *parts(certificate)[1:], wanted)


class OtherCertificatesTest(CertificateCase):
    """Certificates with streams that sources or rows of the shore came first for, and spoilt ones."""

    def test_other_full_streams(self):
        at_shore = 0
        for at, (struck, barred) in enumerate(small_lists(150, seed=30)):
            plain = PlainBasin(struck, barred)
            shore = [(-1, y) for y in plain.rows]
            for firsts in ([*plain.sources * 2, *shore], [*shore, *plain.sources * 2], [*plain.sources, *shore[::-1],
                           *plain.sources][::-1]):
                streams = other_streams(plain, firsts)
                extra = best_bank(struck, barred).extra
                grounds, excuses = self.pairs(plain, streams, extra)
                self.judge(struck, barred, extra, streams, grounds, excuses, True)
                at_shore += any(cell[0] < 0 for cell, other in grounds)
        self.assertGreater(at_shore, 15)

    def pairs(self, plain, streams, extra):
        """All grounds and excuses that there are for these streams, with all pairs that are not needed, too."""
        steps, firsts = plain.rest_steps(streams), [cells[0] for cells in streams]
        grounds = [((-1, y), (0, y)) for y in plain.rows if (-1, y) not in firsts and (0, y) in extra]
        known = [*[other for cell, other in grounds], *[cell for cell in plain.sources if cell in extra]]
        for cell in known:
            for other in steps[cell]:
                grounds.append((cell, other))
                if other not in known:
                    known.append(other)
        excuses = [(cell, other) for cell in sorted(plain.open) for other in steps[cell] if other not in plain.open]
        known = list(dict.fromkeys(cell for cell, other in excuses))
        for other in known:
            for cell in sides_at(other):
                if cell in plain.open and other in steps[cell]:
                    excuses.append((cell, other))
                    if cell not in known:
                        known.append(cell)
        return grounds, excuses

    def test_spoilt_certificates(self):
        numbers, wrong, tried = scattered(40000, 2 ** 20, seed=31), 0, 0
        for at, (struck, barred) in enumerate(small_lists(160, seed=32)):
            plain = PlainBasin(struck, barred)
            extra = best_bank(struck, barred).extra
            streams = other_streams(plain, [*plain.sources * 2, *[(-1, y) for y in plain.rows]])
            for good in (parts(bank_certificate(struck, barred)), (extra, streams, *self.pairs(plain, streams, extra))):
                for change in range(10):
                    told = self.changed(good, numbers[at * 100 + change * 8:])
                    certificate = BankCertificate(*told)
                    wanted = right(struck, barred, *parts(certificate))
                    self.same(judge_bank(struck, barred, certificate), wanted)
                    wrong, tried = wrong + (not wanted), tried + 1
        self.assertTrue(tried // 3 < wrong < tried * 9 // 10, (wrong, tried))

    def changed(self, certificate, numbers):
        """The four lists with one small change in one of them."""
        told = [list(part) for part in certificate]
        part = told[(0, 1, 2, 2, 3, 3)[numbers[0] % 6]]
        if not part:
            told[numbers[1] % 4].append([(0, 0), [(-1, 0), (0, 0)], ((0, 0), (0, 1)), ((0, 0), (0, 1))][numbers[1] % 4])
            return told
        at, other = numbers[1] % len(part), numbers[2] % len(part)
        kind = numbers[3] % 5
        if kind == 0:
            del part[at]
        elif kind == 1:
            part[at], part[other] = part[other], part[at]
        elif kind == 2:
            part.insert(at, part.pop(other))
        elif kind == 3:
            part.append(part[at])
        elif part is told[0]:
            part[at] = sides_at(part[at])[numbers[4] % 4]
        else:
            cells = list(part[at])
            spot = numbers[5] % len(cells)
            cells[spot] = sides_at(cells[spot])[numbers[4] % 4]
            part[at] = tuple(cells)
        return told


class WrongListsTest(PlayCase):
    def test_wrong_lists(self):
        certificate = BankCertificate([], [], [], [])
        for call, more in ((bank_certificate, ()), (judge_bank, (certificate,))):
            for cell in ((121, 0), (0, 121), (-121, 0), (0, -121), (FAR, 0), (0, -FAR)):
                self.refused(BadCell, {"cell": cell}, call, [(0, 0), cell, (200, 200)], [], *more)
                self.refused(BadCell, {"cell": cell}, call, [(0, 0)], [(0, 0), cell, (200, 200)], *more)
                self.refused(BadCell, {"cell": cell}, call, [cell], [(200, 200)] * 301, *more)
            self.refused(TooMany, {"most": 36}, call, MANY[:37], [(500, 0)] * 301, *more)
            self.refused(TooMany, {"most": 36}, call, [(500, 1)] * 37, [], *more)
            self.refused(TooMany, {"most": 300}, call, MANY[:36], MANY, *more)
            call(MANY[:36], MANY[:300], *more)
        self.same(parts(bank_certificate([(0, 0)], [(0, 0)])), ((), (), (), ()))
        self.same(bank_certificate([(0, 0)]).extra, ((0, 0),))

    def test_a_basin_is_not_changed(self):
        basin = Basin([(0, 0), (0, 3)])
        bank_certificate(basin.struck, basin.barred)
        self.same((basin.struck, basin.barred), (((0, 0), (0, 3)), ()))


if __name__ == "__main__":
    unittest.main()
