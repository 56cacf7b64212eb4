import unittest

from plays import ROW, PlainGame, next_deed, plain_games, plain_plays, shuttle, state
from support import FAR, PlayCase

from neverpenned.errors import BadCell, NothingToUndo, TooMany, WrongPhase
from neverpenned.games import Game
from neverpenned.regions import Region
from neverpenned.trials import Trial, try_deeds


class Stop(Exception):
    """An error that is none of the package."""


class TrialTest(PlayCase):
    def test_deeds_in_a_block_are_taken_back(self):
        for plain in plain_plays():
            game = plain.real()
            kept = state(game)
            with Trial(game) as trial:
                self.assertIs(trial, game)
                for number in range(4):
                    deed = next_deed(plain, number)
                    if deed is not None:
                        plain.deeds.append(deed)
                        trial.do(deed)
                self.same(state(game), plain.state())
            self.same(state(game), kept)
            self.goes_on(game)

    def test_deeds_from_before_the_block_are_done_again(self):
        for plain in plain_plays():
            for many in (1, 2, len(plain.deeds)):
                game = plain.real()
                kept = state(game)
                with Trial(game):
                    for _ in range(min(many, len(plain.deeds))):
                        game.undo()
                self.same(state(game), kept)
                self.goes_on(game)

    def test_another_way_in_the_block(self):
        for plain in plain_plays():
            game = plain.real()
            kept = state(game)
            with Trial(game):
                while len(plain.deeds) > 1:
                    self.same(game.undo(), plain.deeds.pop())
                for number in range(11, 30):
                    deed = next_deed(plain, number)
                    if deed is not None:
                        plain.deeds.append(deed)
                        game.do(deed)
                self.same(state(game), plain.state())
            self.same(state(game), kept)
            self.goes_on(game)

    def goes_on(self, game):
        """The game can be taken back to its beginning and played again."""
        deeds, kept = game.deeds, state(game)
        for deed in deeds[::-1]:
            self.same(game.undo(), deed)
        self.refused(NothingToUndo, {}, game.undo)
        for deed in deeds:
            game.do(deed)
        self.same(state(game), kept)

    def test_an_error_in_the_block(self):
        game = Game(1, board=Region(ROW))
        game.strike((2, 0))
        kept = state(game)
        with self.assertRaises(Stop):
            with Trial(game):
                game.undo()
                game.strike((1, 0))
                game.move((-1, 0))
                raise Stop("now")
        self.same(state(game), kept)
        with self.assertRaises(BadCell) as caught:
            with Trial(game):
                game.move((1, 0))
                game.strike((FAR, 0))
        self.same(caught.exception.cell, (FAR, 0))
        self.same(state(game), kept)
        with self.assertRaises(WrongPhase):
            with Trial(game):
                game.strike((3, 0))
        self.same(state(game), kept)
        self.goes_on(game)

    def test_the_state_is_that_at_the_beginning_of_the_block(self):
        game = Game(2)
        trial = Trial(game)
        game.strike((5, 5))
        game.move((1, 1))
        with trial as held:
            self.assertIs(held, game)
            game.strike((6, 6))
        self.same(game.deeds, (("strike", (5, 5)), ("move", (1, 1))))
        trial = Trial(game)
        game.undo()
        with trial:
            game.undo()
        self.same((game.deeds, game.phase, game.cell), ((("strike", (5, 5)),), "move", (0, 0)))

    def test_blocks_in_blocks(self):
        game = Game(1)
        game.strike((1, 0))
        with Trial(game) as trial:
            trial.move((0, 1))
            inner = state(game)
            with Trial(game) as second:
                second.strike((0, 0))
                second.undo()
                second.undo()
                second.undo()
            self.same(state(game), inner)
            trial.strike((1, 1))
        self.same(game.deeds, (("strike", (1, 0)),))
        with Trial(game):
            game.undo()
        self.same(game.deeds, (("strike", (1, 0)),))

    def test_a_block_without_deeds(self):
        for plain in plain_games():
            game = plain.begun()
            with Trial(game) as trial:
                self.same(state(trial), plain.state())
            self.same(state(game), plain.state())

    def test_what_was_told_in_the_block_stays(self):
        game = Game(1)
        with Trial(game) as trial:
            trial.strike((1, 0))
            told, landings = trial.deeds, trial.landings()
        self.same((told, len(landings), (1, 0) in landings), ((("strike", (1, 0)),), 7, False))

    def test_many_turns(self):
        game, deeds = Game(1), shuttle(1200)
        with Trial(game):
            for deed in deeds:
                game.do(deed)
            self.same(game.turn, 1200)
        self.same((game.turn, game.deeds, game.phase), (0, (), "strike"))
        for deed in deeds:
            game.do(deed)
        with Trial(game):
            while game.deeds:
                game.undo()
        self.same((game.turn, game.deeds), (1200, tuple(deeds)))


class TryDeedsTest(PlayCase):
    def test_all_kinds_of_games(self):
        for plain in plain_plays():
            for many in (0, 1, len(plain.deeds) // 2, len(plain.deeds)):
                other = PlainGame(plain.power, plain.start, plain.board, plain.ways_out, plain.before)
                other.deeds = plain.deeds[:many]
                game = other.real()
                kept, rest = state(game), plain.deeds[many:]
                self.same(try_deeds(game, rest), (len(rest), plain.phase()))
                self.same(state(game), kept)

    def test_each_error_ends_the_trial(self):
        names, cells = ("strike", "move", "jump", "", "away"), [*ROW, (0, 1), (FAR, 0), (0, -121)]
        good = [("strike", (-1, 0)), ("move", (2, 0)), ("strike", (-4, 0)), ("move", (1, 0)), ("strike", (2, 0)),
                ("move", (0, 0)), ("strike", (1, 0)), ("move", (-2, 0)), ("strike", (0, 0)), ("move", (-3, 0)),
                ("strike", (-2, 0))]
        game, errors, ends = Game(2, board=Region(ROW), before=[(3, 0)]), set(), set()
        for many in range(len(good) + 1):
            for bad in [(name, cell) for name in names for cell in cells]:
                plain, done = PlainGame(2, (0, 0), ROW, [], [(3, 0)]), 0
                for deed in [*good[:many], bad, *good[many:]]:
                    if plain.refusal(*deed) is not None:
                        errors.add(plain.refusal(*deed)[0].__name__)
                        break
                    plain.deeds.append(deed)
                    done += 1
                told = try_deeds(game, [*good[:many], bad, *good[many:]])
                ends.add(told)
                self.same(told, (done, plain.phase()))
        self.same(state(game), PlainGame(2, (0, 0), ROW, [], [(3, 0)]).state())
        self.assertEqual(errors, {"BadName", "WrongPhase", "BadCell", "OffBoard", "Occupied", "TooFar", "AlreadyStruck"})
        self.assertLessEqual({(0, "strike"), (1, "move"), (4, "strike"), (10, "strike"), (11, "penned")}, ends)

    def test_ends_of_games(self):
        row = Region([(0, 0), (1, 0), (2, 0)])
        game = Game(1, board=row, ways_out=[(1, 0)])
        self.same(try_deeds(game, [("strike", (2, 0)), ("move", (1, 0)), ("strike", (0, 0))]), (2, "away"))
        self.same(try_deeds(game, [("strike", (1, 0)), ("move", (2, 0))]), (1, "penned"))
        self.same(try_deeds(Game(1, board=Region([(0, 0)])), [("strike", (0, 0))]), (0, "penned"))
        self.same(try_deeds(game, ()), (0, "strike"))

    def test_the_number_of_deeds(self):
        deeds = shuttle(1200)
        self.same(try_deeds(Game(1), deeds), (2400, "strike"))
        self.same(try_deeds(Game(1), deeds[:-1]), (2399, "move"))
        game = Game(1)
        self.refused(TooMany, {"most": 2400}, try_deeds, game, [*deeds, ("strike", (50, 50))])
        self.refused(TooMany, {"most": 2400}, try_deeds, game, [("jump", (FAR, 0))] * 2401)
        self.same(try_deeds(game, [("jump", (FAR, 0))] * 2400), (0, "strike"))
        for deed in shuttle(3):
            game.do(deed)
        kept = state(game)
        # The 1201st strike is refused, since three were made before.
        self.same(try_deeds(game, [("strike", (50, 50)), ("move", (1, 0)), *deeds[6:]]), (1, "move"))
        self.same(try_deeds(game, deeds[6:]), (2394, "strike"))
        self.same(try_deeds(game, [*deeds[6:], ("strike", (50, 50))]), (2394, "strike"))
        self.same(state(game), kept)

    def test_the_list_is_not_changed(self):
        deeds = [("strike", (1, 0)), ("move", (0, 1)), ("move", (0, 2))]
        self.same(try_deeds(Game(1), deeds), (2, "strike"))
        self.same(try_deeds(Game(1), tuple(deeds)), (2, "strike"))
        self.same(deeds, [("strike", (1, 0)), ("move", (0, 1)), ("move", (0, 2))])

    def test_other_errors_go_on(self):
        game = Game(1)
        with self.assertRaises(TypeError):
            try_deeds(game, [("strike", (1, 0)), ("move", None)])
        self.same(state(game), PlainGame(1).state())


if __name__ == "__main__":
    unittest.main()
