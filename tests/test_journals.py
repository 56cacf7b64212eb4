import unittest

from games import game, games, plain_image
from support import FAR, PlayCase, scattered
from test_runnertexts import SHORE
from test_runnertexts import state as runner_state

from neverpenned.certificates import BankCertificate, bank_certificate, judge_bank
from neverpenned.errors import BadNumber, PlayError, TooMany
from neverpenned.journals import Entry, first_bad_turn, journal
from neverpenned.runners import BankRunner

EXAMPLE = [(0, 2), (1, 1), (0, 4)]
EMPTY = BankCertificate([], [], [], [])


def plain_first_bad_turn(entries, code):
    """The first turn that is not right, by the fact of point 47."""
    runner = BankRunner(code)
    if len(entries) > 14:
        raise AssertionError("this would take too long")
    for turn, entry in enumerate(entries, start=1):
        try:
            landing = runner.strike(entry.hit)
        except PlayError:
            return turn
        if landing != entry.landing or not judge_bank(runner.struck_by(turn), runner.barred_at(turn), entry.certificate):
            return turn
    return None


def parts(entry):
    certificate = entry.certificate
    return (entry.hit, entry.landing, certificate.extra, certificate.streams, certificate.grounds, certificate.excuses)


def short_games():
    """Some games of a few turns with the entries of their journals."""
    runners = [game(style, code, 10, seed=code + 2) for code, style in enumerate(("near", "ahead", "walls", "bands"))]
    return [(runner, journal(runner)) for runner in runners]


class EntryTest(PlayCase):
    def test_fields(self):
        certificate = BankCertificate([(0, 0)], [[(0, 0)]], [], [])
        entry = Entry((FAR, -FAR), (121, 0), certificate)
        self.same((entry.hit, entry.landing), ((FAR, -FAR), (121, 0)))
        self.same(parts(entry)[2:], (((0, 0),), (((0, 0),),), (), ()))
        self.assertIs(type(entry.certificate), BankCertificate)
        entry = Entry(certificate=EMPTY, landing=(0, 1), hit=(0, 0))
        self.same(parts(entry), ((0, 0), (0, 1), (), (), (), ()))


class JournalTest(PlayCase):
    def test_journals_of_games(self):
        for runner in games()[::3]:
            entries = journal(runner)
            self.same((len(entries), type(entries)), (36, list))
            for turn, entry in enumerate(entries, start=1):
                self.assertIs(type(entry), Entry)
                self.assertIs(type(entry.certificate), BankCertificate)
                self.same((entry.hit, entry.landing), (runner.struck[turn - 1], runner.visited[turn]))
                self.same(entry.certificate.extra, runner.bank_at(turn).extra)
                self.assertTrue(judge_bank(runner.struck_by(turn), runner.barred_at(turn), entry.certificate))
            self.same(first_bad_turn(entries, runner.code), None)

    def test_all_codes(self):
        for code in range(8):
            runner = BankRunner.played([plain_image(code, cell) for cell in EXAMPLE], code)
            kept = runner_state(runner)
            entries = journal(runner)
            self.same([entry.hit for entry in entries], [plain_image(code, cell) for cell in EXAMPLE])
            self.same([entry.landing for entry in entries], [plain_image(code, cell) for cell in ((0, 1), (0, 3), (1, 4))])
            self.same([first_bad_turn(entries, other) for other in range(8)],
                      [plain_first_bad_turn(entries, other) for other in range(8)])
            self.same(first_bad_turn(entries, code), None)
            self.same(runner_state(runner), kept)

    def test_no_turns(self):
        self.same(journal(BankRunner(5)), [])
        self.same(first_bad_turn([]), None)
        self.same(first_bad_turn((), 7), None)

    def test_journals_are_new_each_time(self):
        runner = BankRunner.played(EXAMPLE)
        entries = journal(runner)
        entries[0].hit = (9, 9)
        entries[1].certificate.extra = ()
        entries.pop()
        self.same([entry.hit for entry in journal(runner)], EXAMPLE)
        self.same(first_bad_turn(journal(runner)), None)

    def test_a_runner_that_went_back(self):
        runner = BankRunner.played(EXAMPLE)
        runner.undo()
        runner.strike((2, 5))
        self.same([entry.hit for entry in journal(runner)], [(0, 2), (1, 1), (2, 5)])
        self.same(first_bad_turn(journal(runner), 0), None)


class BadTurnTest(PlayCase):
    def spoilt(self, entries, code, at, entry):
        """The first bad turn where the entry stands instead of the one at the index."""
        changed = [*entries[:at], entry, *entries[at + 1:]]
        told = first_bad_turn(changed, code)
        self.same(told, plain_first_bad_turn(changed, code))
        return told

    def test_struck_cells(self):
        for runner, entries in short_games():
            for at in (0, 1, 4, 9):
                entry = entries[at]
                for hit in ((121, 0), (0, -121), (FAR, 0), (0, -FAR), runner.visited[at], *runner.struck[:at][-2:]):
                    self.same(self.spoilt(entries, runner.code, at, Entry(hit, entry.landing, entry.certificate)), at + 1)
                # Another struck cell may be right as long as the bank stays the same.
                for hit in (runner.struck[-1], runner.visited[at + 1], (120, 120), (-120, 0), (entry.hit[0] + 1, 0)):
                    self.spoilt(entries, runner.code, at, Entry(hit, entry.landing, entry.certificate))

    def test_struck_cells_that_make_no_difference(self):
        entries = journal(BankRunner.played([(90, 90), (-3, 5), (91, 5)]))
        self.same(self.spoilt(entries, 0, 1, Entry((-120, 120), entries[1].landing, EMPTY)), None)
        self.same(self.spoilt(entries, 0, 1, Entry((-120, 121), entries[1].landing, EMPTY)), 2)
        self.same(self.spoilt(entries, 0, 1, Entry((90, 90), entries[1].landing, EMPTY)), 2)
        self.same(self.spoilt(entries, 0, 1, Entry((0, 2), entries[1].landing, EMPTY)), 2)
        self.same(self.spoilt(entries, 0, 0, Entry((0, 0), entries[0].landing, EMPTY)), 1)

    def test_landings(self):
        for runner, entries in short_games():
            for at in (0, 2, 9):
                entry = entries[at]
                (x, y), (a, b) = entry.landing, runner.visited[at]
                for landing in ((x + 1, y), (x, y - 1), (a, b), (-x, y + 1), (FAR, y), (x, 121), entry.hit):
                    told = self.spoilt(entries, runner.code, at, Entry(entry.hit, landing, entry.certificate))
                    self.same(told, None if landing == entry.landing else at + 1)

    def test_certificates(self):
        for runner, entries in short_games():
            for at in (0, 3, 9):
                entry, certificate = entries[at], entries[at].certificate
                lists = [certificate.extra, certificate.streams, certificate.grounds, certificate.excuses]
                others = [EMPTY, *[other.certificate for other in entries[::3]]]
                for which in range(4):
                    for other in ((), lists[which][1:], lists[which][:-1], lists[which][::-1], lists[which][:200] * 2):
                        others.append(BankCertificate(*[other if k == which else lists[k] for k in range(4)]))
                others.append(BankCertificate([*lists[0], (39, 120)], *lists[1:]))
                others.append(BankCertificate([*lists[0], (-1, 0)], *lists[1:]))
                others.append(BankCertificate([(FAR, FAR)], *lists[1:]))
                others.append(BankCertificate(lists[0], [*lists[1], []], *lists[2:]))
                others.append(BankCertificate(*lists[:2], [*lists[2], ((0, 0), (FAR, 0))], lists[3]))
                others.append(BankCertificate(*lists[:3], [*lists[3], ((FAR, 0), (0, 0))]))
                for other in others:
                    right = judge_bank(runner.struck_by(at + 1), runner.barred_at(at + 1), other)
                    self.same(self.spoilt(entries, runner.code, at, Entry(entry.hit, entry.landing, other)),
                              None if right else at + 1)

    def test_certificates_for_other_lists(self):
        found = set()
        for runner, entries in short_games():
            for turn in (1, 4, 10):
                struck, entry = runner.struck_by(turn), entries[turn - 1]
                for other, barred in ((struck, []), (struck, runner.barred_at(1)), (struck, runner.barred_at(turn + 1)),
                                      (struck[:-1], runner.barred_at(turn)), (struck[::-1], runner.barred_at(turn)),
                                      ([*struck, (0, 60)], runner.barred_at(turn))):
                    told = self.spoilt(entries, runner.code, turn - 1, Entry(entry.hit, entry.landing, bank_certificate(
                        other, barred)))
                    found.add(told is None)
        self.assertEqual(found, {True, False})

    def test_entries_at_other_places(self):
        for runner, entries in short_games()[:2]:
            for first, second in ((0, 1), (0, 9), (4, 5), (3, 8)):
                changed = list(entries)
                changed[first], changed[second] = changed[second], changed[first]
                self.same(first_bad_turn(changed, runner.code), plain_first_bad_turn(changed, runner.code))
            for at in (0, 3, 8):
                changed = entries[:at] + entries[at + 1:]
                self.same(first_bad_turn(changed, runner.code), plain_first_bad_turn(changed, runner.code))
                self.same(first_bad_turn([*entries[:at + 1], *entries[at:]], runner.code), at + 2)
            for many in range(0, 10, 3):
                self.same(first_bad_turn(entries[:many], runner.code), None)

    def test_long_journals(self):
        for runner in games()[1::6]:
            entries = journal(runner)
            for at in (20, 35):
                entry = entries[at]
                for other in (Entry(runner.struck[3], entry.landing, entry.certificate),
                              Entry(runner.visited[at], entry.landing, entry.certificate),
                              Entry(entry.hit, runner.visited[at], entry.certificate)):
                    self.same(first_bad_turn([*entries[:at], other, *entries[at + 1:]], runner.code), at + 1)

    def test_the_first_of_several_bad_turns(self):
        entries = journal(BankRunner.played(EXAMPLE))
        entries[2].landing = (9, 9)
        self.same(first_bad_turn(entries), 3)
        entries[1].certificate = EMPTY
        self.same(first_bad_turn(entries), plain_first_bad_turn(entries, 0))
        entries[0].hit = (0, 0)
        self.same(first_bad_turn(entries), 1)

    def test_other_codes(self):
        for runner, entries in short_games()[:3]:
            for code in range(8):
                self.same(first_bad_turn(entries, code), plain_first_bad_turn(entries, code))

    def test_nothing_is_changed(self):
        runner, entries = short_games()[2]
        kept = [parts(entry) for entry in entries]
        given = list(entries)
        first_bad_turn(given, runner.code)
        first_bad_turn(given, (runner.code + 1) % 8)
        self.assertEqual(given, entries)
        self.same([parts(entry) for entry in entries], kept)


class RefusedJournalTest(PlayCase):
    def test_the_number_of_entries(self):
        entries = journal(BankRunner.played(SHORE[:36]))
        self.same((len(entries), first_bad_turn(entries)), (36, None))
        self.refused(TooMany, {"most": 36}, first_bad_turn, [*entries, entries[0]], 8)
        self.refused(TooMany, {"most": 36}, first_bad_turn, [Entry((FAR, 0), (FAR, 0), EMPTY)] * 37)

    def test_codes(self):
        for code in (-1, 8, FAR, -FAR):
            self.refused(BadNumber, {"number": code}, first_bad_turn, [Entry((FAR, 0), (FAR, 0), EMPTY)] * 36, code)
            self.refused(BadNumber, {"number": code}, first_bad_turn, [], code)

    def test_numbers_of_any_size(self):
        numbers = [FAR, -FAR, 121, *scattered(10, 500)]
        for x in numbers:
            self.same(first_bad_turn([Entry((x * 2 + 242, 0), (0, x), EMPTY)]), 1)
            self.same(first_bad_turn([Entry((99, 99), (0, x), EMPTY)]), 1 if x != 2 else None)


if __name__ == "__main__":
    unittest.main()
