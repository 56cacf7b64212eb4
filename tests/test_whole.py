"""The whole program together: facts in matches and pens, texts that are read back and gone on with, ways back."""

import unittest

from games import STYLES, game, next_strike, plain_image
from plays import ROOMS, plain_plays, played
from plays import state as game_state
from support import PlayCase, scattered
from test_breakers import cornering, hugging, steering
from test_breakers import state as breaker_state
from test_runnertexts import state as runner_state
from trees import grown
from trees import state as study_state

from neverpenned.boardplay import play_breaker, play_runner
from neverpenned.boundaries import next_edge
from neverpenned.breakers import PenBreaker
from neverpenned.cells import touching
from neverpenned.certificates import judge_bank
from neverpenned.certtexts import certificate_text, read_certificate
from neverpenned.errors import NothingToUndo
from neverpenned.games import Game
from neverpenned.hunts import hunt, wished_strike
from neverpenned.images import game_image, runner_image
from neverpenned.journals import first_bad_turn, journal
from neverpenned.journaltexts import journal_text, read_journal
from neverpenned.matches import Match, pen_match
from neverpenned.pens import is_held, lacking_cells
from neverpenned.records import read_record, record_text
from neverpenned.regions import Region
from neverpenned.runners import BankRunner
from neverpenned.runnertexts import read_runner, runner_text
from neverpenned.stretches import enclosed, visits
from neverpenned.strikejudge import judge_strikes
from neverpenned.strolls import stroll
from neverpenned.studies import Study, merged
from neverpenned.studytexts import read_study, study_text
from neverpenned.symmetries import Symmetry
from neverpenned.trials import try_deeds
from neverpenned.walls import corner_cells, is_inside
from neverpenned.watches import growth_gap, struck_ahead, trail_stands


class RunnerFactsTest(PlayCase):
    def check(self, match):
        """The facts of point 31 after a turn of a match."""
        runner, game = match.runner, match.game
        turn = runner.turn
        before, after = runner.visited[-2:]
        self.assertIn(runner.marks[-1] - runner.marks[-2], (2, 3))
        self.assertNotIn(after, (*runner.struck, before))
        self.assertLessEqual(max(abs(after[0] - before[0]), abs(after[1] - before[1])), 2)
        self.assertEqual((game.cell, game.phase, match.turn), (after, "strike", turn))
        self.assertEqual((struck_ahead(runner, 400), trail_stands(runner)), ([], True))
        bank, trail, ahead = runner.bank_at(turn), runner.trail(), runner.edges_ahead(400)
        self.assertTrue(runner.bank_at(turn - 1).inside(bank))
        self.assertEqual(next_edge(bank, trail[-1]), ahead[0])
        self.assertEqual(len({*trail, *ahead}), len(trail) + 400)
        self.assertEqual(ahead[-1][0], (-1, ahead[-2][0][1] + 1))
        self.assertTrue(judge_bank(runner.struck_by(turn), runner.barred_at(turn), runner.certificate_at(turn)))
        for early in {1, (turn + 1) // 2, turn}:
            difference, strikes = growth_gap(runner, early, turn, [(x, y) for x in range(3) for y in range(
                runner.marks[-1], runner.marks[-1] + 4) if (x, y) not in runner.barred_at(early)])
            self.assertGreaterEqual(difference, -2 * strikes)
        cell = trail[-1][1]
        if len(visits(runner, cell, runner.marks[-1] + 50)) > 1:
            self.assertIn(cell, enclosed(runner, cell, runner.marks[-1] + 50))

    def test_matches(self):
        for power in (2, 3, 4, 5):
            for at, style in enumerate(STYLES):
                match, numbers = Match((at + power) % 8, power), scattered(4000, 2 ** 20, seed=at * 9 + power)
                for turn in range(12 if at != power else 36):
                    match.strike(next_strike(match.runner, style, numbers[turn * 40:turn * 40 + 400]))
                    self.check(match)

    def test_hunts(self):
        for power in (2, 3, 4, 5):
            match = Match(power, power)
            for number in scattered(36, 7 * 7, seed=power + 3):
                match.strike(wished_strike(match.runner, (number // 7 + 9) * 25 + number % 7 + 9))
                self.check(match)

    def test_moved_matches(self):
        for at, style in enumerate(STYLES):
            runner = game(style, at, 12, seed=at + 7)
            match = Match.played(runner.struck, runner.code, 2 + at % 4)
            for code in range(8):
                symmetry = Symmetry(code)
                other = Match.played([plain_image(code, cell) for cell in runner.struck],
                                     (symmetry * Symmetry(runner.code)).code, 2 + at % 4)
                self.same(game_state(other.game), game_state(game_image(match.game, symmetry)))
                self.same(runner_state(other.runner), runner_state(runner_image(match.runner, symmetry)))


class PenFactsTest(PlayCase):
    def test_pens(self):
        for half, start, prepared, choose in ((10, (0, 0), True, cornering), (10, (-4, 4), True, hugging(2)),
                                              (14, (1, 2), True, steering(1)), (65, (0, 0), False, hugging(1))):
            breaker, beside = PenBreaker(half, start, prepared=prepared), Game(
                1, start, before=corner_cells(half) if prepared else [])
            cells = [start]
            while breaker.phase != "penned" and beside.turn < 800:
                struck = [*beside.before, *breaker.struck]
                lacks = lacking_cells(half, breaker.cell, struck)
                self.assertLessEqual(len(lacks), 1)
                cell = breaker.strike()
                self.assertIn(cell, lacks or [cell])
                # The game beside refuses a cell that is struck already, and that of the runner.
                beside.strike(cell)
                self.assertTrue(is_held(half, breaker.cell, [*struck, cell]))
                self.assertEqual(beside.phase, breaker.phase)
                if breaker.phase == "move":
                    free = [other for other in touching(breaker.cell) if not breaker.is_struck(other)]
                    self.assertEqual(sorted(free), beside.landings())
                    cells.append(choose(beside.turn, free, breaker.cell))
                    breaker.move(cells[-1])
                    beside.move(cells[-1])
                    self.assertTrue(is_inside(half, cells[-1]))
            self.same(game_state(pen_match(breaker)), game_state(beside))
            self.assertTrue(judge_strikes(half, prepared, cells, list(breaker.struck)))
            self.assertEqual(breaker.phase == "penned", prepared)
            self.assertLessEqual(len(breaker.struck), (2 * half + 1) ** 2 - 1 - 60)


class TextsTest(PlayCase):
    def test_runners(self):
        for at, style in enumerate(STYLES):
            whole = game(style, at, 24, seed=at + 1)
            runner = BankRunner(at)
            for cell in whole.struck:
                runner = read_runner(runner_text(runner))
                runner.strike(cell)
            self.same(runner_state(runner), runner_state(whole))

    def test_games(self):
        for at, plain in enumerate(plain_plays()):
            game = plain.begun()
            for deed in plain.deeds:
                game = read_record(record_text(game))
                game.do(deed)
            self.same(game_state(game), plain.state())
            played(plain, 5, seed=at + 60)
            self.same(try_deeds(game, plain.deeds[len(game.deeds):])[1], plain.phase())

    def test_matches(self):
        for at, style in enumerate(STYLES):
            whole = game(style, at, 20, seed=at + 5)
            match = Match.played(whole.struck[:10], at, 2 + at % 4)
            runner, beside = read_runner(runner_text(match.runner)), read_record(record_text(match.game))
            for cell in whole.struck[10:]:
                landing = match.strike(cell)
                self.same(runner.strike(cell), landing)
                beside.strike(cell)
                beside.move(landing)
            self.same((runner_state(match.runner), game_state(match.game)), (runner_state(runner), game_state(beside)))
            self.same(runner_state(runner), runner_state(whole))

    def test_journals_and_certificates(self):
        runner = game("walls", 6, 20, seed=8)
        code, entries = read_journal(journal_text(journal(runner), 6))
        again = BankRunner.played([entry.hit for entry in entries], code)
        self.same((runner_state(again), first_bad_turn(entries, code)), (runner_state(runner), None))
        for turn, entry in enumerate(entries, start=1):
            certificate = read_certificate(certificate_text(entry.certificate))
            self.assertTrue(judge_bank(runner.struck_by(turn), runner.barred_at(turn), certificate))

    def test_studies(self):
        for at, plain in enumerate(plain_plays()[::3]):
            wanted = grown(plain, 12, seed=at + 4)
            study = read_study(study_text(wanted.real()))
            again = read_study(study_text(study))
            self.same(study_state(again), study_state(study))
            self.assertIs(merged(study, again) == wanted.real(), True)


class WayBackTest(PlayCase):
    def back(self, thing, turns, state, first):
        """The thing can be taken back so many times to its own beginning, and no further."""
        for _ in range(turns):
            thing.undo()
        self.refused(NothingToUndo, {}, thing.undo)
        self.same(state(thing), state(first))
        self.refused(NothingToUndo, {}, thing.undo)

    def test_runners(self):
        runner = BankRunner.played([(0, 2), (1, 1), (0, 4)])
        makers = (runner, runner.copy(), read_runner(runner_text(runner)), runner_image(runner, Symmetry(0)),
                  hunt(runner, []), Match.played(runner.struck).runner)
        for made in makers:
            self.back(made, 3, runner_state, BankRunner())
        self.back(runner_image(BankRunner.played([(0, 2)]), Symmetry(5)), 1, runner_state, BankRunner(5))
        self.back(hunt(BankRunner.played([(0, 2)]), [312, 0]), 3, runner_state, BankRunner())

    def test_games(self):
        game = Game(2, (-3, 0), board=Region(ROOMS), ways_out=[(3, 2)], before=[(2, 2)])
        first = game.copy()
        for deed in (("strike", (-2, 1)), ("move", (-1, 0)), ("strike", (1, 0))):
            game.do(deed)
        study = Study(game)
        node = 0
        for deed in game.deeds:
            node = study.add(node, deed)
        makers = (game.copy(), read_record(record_text(game)), game_image(game, Symmetry(0)), study.game_at(node),
                  merged(study, study).game_at(node), read_study(study_text(study)).game_at(node), game)
        for made in makers:
            self.back(made, 3, game_state, first)
        self.back(Match.played([(0, 2), (1, 1)], 3, 4).game, 4, game_state, Game(4))
        for call in (play_breaker, play_runner):
            made = call(Region(ROOMS[:6]), [ROOMS[5]], 1, ROOMS[0], [1, 2, 3])
            self.back(made, len(made.deeds), game_state, Game(1, ROOMS[0], board=Region(ROOMS[:6]), ways_out=[ROOMS[5]]))

    def test_matches_and_pens(self):
        def match_state(match):
            return (runner_state(match.runner), game_state(match.game), match.turn)
        match = Match.played([(0, 2), (1, 1), (0, 4)], 2, 3)
        self.back(match.copy(), 3, match_state, Match(2, 3))
        self.back(match, 3, match_state, Match(2, 3))
        breaker = stroll(PenBreaker(10, (1, 1), prepared=True), [2, 3], 7)[2]
        self.back(pen_match(breaker), 14, game_state, Game(1, (1, 1), before=corner_cells(10)))
        self.back(stroll(breaker, [1], 3)[2], 20, breaker_state, PenBreaker(10, (1, 1), prepared=True))
        self.back(breaker.copy(), 14, breaker_state, PenBreaker(10, (1, 1), prepared=True))


if __name__ == "__main__":
    unittest.main()
