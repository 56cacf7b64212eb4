import unittest

from plays import PlainGame, plain_games, plain_plays, shuttle
from plays import state as game_state
from support import FAR, PlayCase, scattered
from trees import PlainStudy, grown, state

from neverpenned.errors import (AlreadyStruck, BadCell, BadName, NoNode, NotSame, NothingToUndo, Occupied, OffBoard,
                                TooFar, TooMany, WrongPhase)
from neverpenned.games import Game
from neverpenned.regions import Region
from neverpenned.studies import Study, merged

BLOCK = [(x, y) for x in range(4) for y in range(3)]


def some_studies():
    """Plain studies of games of all kinds."""
    return [grown(plain, 14, seed=at + 1) for at, plain in enumerate(plain_games() * 2)]


def chain(study, node, deeds):
    """Add the deeds one below the other, and tell the last node."""
    for deed in deeds:
        node = study.add(node, deed)
    return node


class NewStudyTest(PlayCase):
    def test_the_root_alone(self):
        for plain in [*plain_games(), *plain_plays()]:
            game = plain.real()
            study = Study(game)
            plain.deeds = []
            self.same((len(study), study.nodes(), study.parent(0), study.children(0), study.depth(0), study.deeds_at(0),
                       study.alike(), study.lines()), (1, [0], None, [], 0, [], [], [()]))
            self.same(game_state(study.game_at(0)), plain.state())

    def test_the_game_is_copied(self):
        game = Game(2, board=Region(BLOCK), ways_out=[(3, 2)], before=[(1, 1)])
        game.strike((2, 2))
        study = Study(game)
        self.same(game.deeds, (("strike", (2, 2)),))
        game.move((0, 1))
        self.same(study.game_at(0).deeds, ())
        study.add(0, ("strike", (0, 1)))
        self.same(game.is_struck((0, 1)), False)
        self.same(game.turn, 1)


class GrowingTest(PlayCase):
    def test_studies_grow_as_plain_ones(self):
        for wanted in some_studies():
            study, growing = Study(wanted.plain.begun()), PlainStudy(wanted.plain)
            for node in sorted(wanted.nodes)[1:]:
                parent, deed = wanted.nodes[node]
                self.same(study.add(parent, deed), growing.add(parent, deed))
                # The same deed once more leads to the same node.
                self.same(study.add(parent, deed), node)
                self.same(len(study), len(growing.nodes))
            self.same(state(study), wanted.state())
            self.same(study.lines(), wanted.lines())
            self.same(study.alike(), wanted.alike())

    def test_games_at_nodes_are_new_and_go_back(self):
        for wanted in some_studies()[::3]:
            study = wanted.real()
            for node in study.nodes():
                game = study.game_at(node)
                for deed in wanted.deeds_at(node)[::-1]:
                    self.same(game.undo(), deed)
                self.refused(NothingToUndo, {}, game.undo)
                self.same(game_state(game), wanted.game_at(0).state())
            self.same(state(study), wanted.state())

    def test_results_are_new(self):
        wanted = grown(PlainGame(1, (0, 0), BLOCK), 60, seed=9, narrow=2)
        study = wanted.real()
        for call in (study.nodes, study.alike, study.lines):
            self.fresh(call)
        for node in study.nodes():
            self.fresh(study.children, node)
            self.fresh(study.deeds_at, node)
        groups = study.alike()
        self.assertGreater(len(groups), 0)
        groups[0].append(FAR)
        self.same(study.alike(), wanted.alike())


class PruneTest(PlayCase):
    def test_pruned_studies(self):
        for at, wanted in enumerate(some_studies()):
            study = wanted.real()
            for number in scattered(12, 1000, seed=at + 1):
                nodes = sorted(wanted.nodes)
                node = nodes[number % len(nodes)]
                if node and number % 3:
                    self.same(study.prune(node), wanted.prune(node))
                    for call in (study.parent, study.children, study.depth, study.deeds_at, study.game_at, study.prune):
                        self.refused(NoNode, {"node": node}, call, node)
                    self.refused(NoNode, {"node": node}, study.add, node, ("jump", (FAR, 0)))
                else:
                    game = wanted.game_at(node)
                    deeds = [deed for deed in [(name, cell) for name in ("strike", "move") for cell in BLOCK]
                             if game.refusal(*deed) is None]
                    for deed in deeds[number % 5:][:2]:
                        self.same(study.add(node, deed), wanted.add(node, deed))
                self.same(state(study), wanted.state())
                self.same((study.lines(), study.alike()), (wanted.lines(), wanted.alike()))

    def test_numbers_are_not_given_again(self):
        study = Study(Game(1))
        deeds = [("strike", (x, 5)) for x in range(6)]
        self.same([study.add(0, deed) for deed in deeds], [1, 2, 3, 4, 5, 6])
        self.same((study.add(1, ("move", (1, 0))), study.add(1, ("move", (0, 1)))), (7, 8))
        self.same((study.prune(8), study.prune(1), len(study)), (1, 2, 6))
        self.same((study.add(0, deeds[0]), study.children(0)), (9, [2, 3, 4, 5, 6, 9]))
        self.same((study.prune(9), study.prune(6), study.add(0, deeds[5])), (1, 1, 10))
        self.same((study.nodes(), study.children(0)), ([0, 2, 3, 4, 5, 10], [2, 3, 4, 5, 10]))
        for node in (2, 3, 4, 5, 10):
            self.same(study.prune(node), 1)
        self.same((study.nodes(), study.lines(), study.add(0, deeds[2])), ([0], [()], 11))

    def test_a_parent_without_children_ends_a_line(self):
        study = Study(Game(1))
        node = chain(study, 0, [("strike", (5, 5)), ("move", (1, 0)), ("strike", (5, 6))])
        self.same(study.prune(node), 1)
        self.same(study.lines(), [(("strike", (5, 5)), ("move", (1, 0)))])
        self.same(study.prune(1), 2)
        self.same(study.lines(), [()])

    def test_unknown_nodes(self):
        study = Study(Game(1))
        study.add(0, ("strike", (5, 5)))
        for node in (-1, 2, 300, FAR, -FAR):
            for call in (study.parent, study.children, study.depth, study.deeds_at, study.game_at, study.prune):
                self.refused(NoNode, {"node": node}, call, node)
            self.refused(NoNode, {"node": node}, study.add, node, ("strike", (5, 5)))
        self.refused(NoNode, {"node": 0}, study.prune, 0)
        self.same((study.nodes(), study.add(0, ("strike", (6, 6)))), ([0, 1], 2))


class AddTest(PlayCase):
    def test_deeds_that_are_refused(self):
        study = Study(Game(1, (1, 0), board=Region(BLOCK), ways_out=[(0, 0)], before=[(3, 0)]))
        node = study.add(0, ("strike", (2, 2)))
        kept = state(study)
        for deed, error, fields in (
                (("jump", (FAR, 0)), BadName, {"name": "jump"}), (("", (1, 1)), BadName, {"name": ""}),
                (("move", (1, 1)), WrongPhase, {"phase": "strike"}), (("strike", (FAR, 0)), BadCell, {"cell": (FAR, 0)}),
                (("strike", (9, 9)), OffBoard, {"cell": (9, 9)}), (("strike", (1, 0)), Occupied, {"cell": (1, 0)}),
                (("strike", (3, 0)), AlreadyStruck, {"cell": (3, 0)})):
            self.refused(error, fields, study.add, 0, deed)
        for deed, error, fields in (
                (("strike", (1, 1)), WrongPhase, {"phase": "move"}), (("move", (3, 1)), TooFar, {"cell": (3, 1)}),
                (("move", (1, 0)), Occupied, {"cell": (1, 0)})):
            self.refused(error, fields, study.add, node, deed)
        self.same(state(study), kept)
        away = study.add(node, ("move", (0, 0)))
        self.refused(WrongPhase, {"phase": "away"}, study.add, away, ("strike", (1, 0)))
        self.same(study.add(0, ("strike", (0, 0))), 3)

    def test_the_depth(self):
        study, deeds = Study(Game(1)), shuttle(51)
        node = chain(study, 0, deeds[:100])
        self.same((node, study.depth(node), study.deeds_at(node), len(study)), (100, 100, deeds[:100], 101))
        for deed in (deeds[100], ("strike", (50, 50))):
            self.refused(TooMany, {"most": 100}, study.add, node, deed)
        # What the deed itself raises comes first.
        self.refused(AlreadyStruck, {"cell": deeds[0][1]}, study.add, node, deeds[0])
        self.refused(BadName, {"name": "jump"}, study.add, node, ("jump", (0, 0)))
        self.refused(NoNode, {"node": 101}, study.add, 101, deeds[0])
        self.same((study.add(99, ("move", (0, 1))), study.add(99, deeds[99])), (101, 100))

    def test_the_number_of_nodes(self):
        study, deeds = Study(Game(1)), shuttle(51)
        chain(study, 0, deeds[:100])
        first = ("strike", (60, 60))
        chain(study, 0, [first, *deeds[1:100]])
        for x in range(99):
            study.add(0, ("strike", (x - 50, 70)))
        self.same((len(study), study.nodes()), (300, list(range(300))))
        for node, deed in ((0, ("strike", (0, 80))), (101, ("move", (0, 1))), (299, ("move", (1, 0)))):
            self.refused(TooMany, {"most": 300}, study.add, node, deed)
        self.refused(TooMany, {"most": 100}, study.add, 100, deeds[100])
        self.refused(Occupied, {"cell": (0, 0)}, study.add, 0, ("strike", (0, 0)))
        self.refused(BadName, {"name": "x"}, study.add, 0, ("x", (0, 80)))
        self.refused(NoNode, {"node": 300}, study.add, 300, ("x", (0, 80)))
        # A node that is there already is told all the same.
        self.same((study.add(0, first), study.add(99, deeds[99]), study.add(0, deeds[0])), (101, 100, 1))
        self.same(study.prune(201), 1)
        self.same((study.add(0, ("strike", (0, 80))), len(study)), (300, 300))
        self.refused(TooMany, {"most": 300}, study.add, 0, ("strike", (0, 81)))
        self.same((study.prune(101), len(study)), (100, 200))
        self.same(len(study.lines()), 1 + 98 + 1)

    def test_the_least_number(self):
        study = Study(Game(1))
        self.refused(BadCell, {"cell": (FAR, 0)}, study.add, 0, ("strike", (FAR, 0)))
        self.refused(Occupied, {"cell": (0, 0)}, study.add, 0, ("strike", (0, 0)))
        # A call that is refused uses up no number.
        self.same(study.add(0, ("strike", (1, 0))), 1)


class AlikeTest(PlayCase):
    def test_ways_that_meet(self):
        study = Study(Game(1))
        a, b, c = ("strike", (5, 5)), ("strike", (6, 6)), ("strike", (7, 7))
        first = chain(study, 0, [a, ("move", (1, 0)), b, ("move", (0, 0))])
        second = chain(study, 0, [b, ("move", (0, 1)), a, ("move", (0, 0))])
        self.same(study.alike(), [[4, 8]])
        third = chain(study, 0, [a, ("move", (0, 1)), b, ("move", (0, 0))])
        self.same((first, second, third), (4, 8, 11))
        # After the strikes on the way, the runner was on one cell in two of the three.
        self.same(study.alike(), [[4, 8, 11], [7, 10]])
        chain(study, 0, [c, ("move", (0, 1)), b, ("move", (0, 0))])
        self.same(study.alike(), [[4, 8, 11], [7, 10]])
        study.add(first, c)
        study.add(third, c)
        self.same(study.alike(), [[4, 8, 11], [7, 10], [16, 17]])
        study.prune(4)
        self.same(study.alike(), [[7, 10], [8, 11]])

    def test_phases_and_cells(self):
        study = Study(Game(1, board=Region([(0, 0), (1, 0), (2, 0), (0, 1)])))
        # The same cells are struck, but the runner is on other cells.
        chain(study, 0, [("strike", (2, 0)), ("move", (1, 0))])
        chain(study, 1, [("move", (0, 1))])
        self.same(study.alike(), [])
        self.same(Study(Game(5)).alike(), [])

    def test_many_alike_nodes(self):
        for seed in range(6):
            wanted = grown(PlainGame(1 + seed % 2, (1, 1), BLOCK, [(3, 2)] if seed > 3 else []), 120, seed + 5, 2 + seed % 3)
            study = wanted.real()
            self.same(study.alike(), wanted.alike())
            self.assertGreater(len(study.alike()), 1)


class LinesTest(PlayCase):
    def test_ascending_order(self):
        study = Study(Game(1))
        study.add(0, ("strike", (5, 5)))
        study.add(0, ("strike", (-5, 5)))
        chain(study, 1, [("move", (1, 1)), ("strike", (0, 0))])
        chain(study, 1, [("move", (0, 1))])
        strike = ("strike", (5, 5))
        self.same(study.lines(), [(("strike", (-5, 5)),), (strike, ("move", (0, 1))),
                                  (strike, ("move", (1, 1)), ("strike", (0, 0)))])


class EqualTest(PlayCase):
    def test_studies_of_the_same_lines(self):
        deeds = [("strike", (5, 5)), ("strike", (6, 6)), ("strike", (7, 7))]
        first, second = Study(Game(1)), Study(Game(1))
        for deed in deeds:
            first.add(0, deed)
        for deed in [*deeds[::-1], ("strike", (8, 8))]:
            second.add(0, deed)
        self.assertIs(first == second, False)
        second.prune(4)
        self.assertIs(first == second, True)
        self.assertIs(first != second, False)
        chain(second, 1, [("move", (0, 1))])
        self.assertIs(first == second, False)
        chain(first, 3, [("move", (0, 1))])
        self.assertIs(first == second, True)

    def test_the_deeds_of_the_game_do_not_matter(self):
        game = Game(1)
        first = Study(game)
        game.strike((5, 5))
        self.assertIs(first == Study(game), True)

    def other_games(self):
        board = Region(BLOCK)
        return [Game(1), Game(2), Game(1, (1, 0)), Game(1, board=board), Game(1, board=board, ways_out=[(3, 2)]),
                Game(1, board=board, before=[(3, 2)]), Game(1, before=[(3, 2)]), Game(1, board=Region(BLOCK[:-1])),
                Game(1, board=board, ways_out=[(2, 2)])]

    def test_games_that_differ(self):
        games = self.other_games()
        for at, game in enumerate(games):
            for other in range(len(games)):
                self.assertIs(Study(game) == Study(games[other]), at == other)
                if at != other:
                    self.refused(NotSame, {}, merged, Study(game), Study(games[other]))
                else:
                    self.assertIs(merged(Study(game), Study(game)) == Study(game), True)
        lists = {"board": Region(BLOCK[::-1]), "ways_out": [(3, 2), (2, 2)], "before": [(1, 1), (0, 1)]}
        other = {"board": Region(BLOCK), "ways_out": [(2, 2), (3, 2), (2, 2)], "before": [(0, 1), (1, 1)]}
        self.assertIs(Study(Game(1, **lists)) == Study(Game(1, **other)), True)

    def test_other_kinds(self):
        study = Study(Game(1))
        for other in (None, 0, 1, "", [], [()], (), {}, Game(1), Region(), Study):
            self.assertIs(study == other, False)
            self.assertIs(study != other, True)


class MergedTest(PlayCase):
    def test_plain_studies(self):
        for at, plain in enumerate(plain_games()):
            first, second = grown(plain, 14, at + 1), grown(plain, 14, at + 50)
            wanted = PlainStudy(plain)
            for line in [*first.lines(), *second.lines()]:
                node = 0
                for deed in line:
                    node = wanted.add(node, deed)
            one, other = first.real(), second.real()
            study = merged(one, other)
            self.assertIs(type(study), Study)
            self.same(state(study), wanted.state())
            self.same((state(one), state(other)), (first.state(), second.state()))
            self.assertIs(merged(other, one) == study, True)

    def test_the_numbers_of_the_nodes(self):
        first, second = Study(Game(1)), Study(Game(1))
        for x in (7, 3, 5):
            first.add(0, ("strike", (x, 5)))
        chain(second, 0, [("strike", (3, 5)), ("move", (1, 0))])
        second.add(0, ("strike", (1, 5)))
        study = merged(first, second)
        self.same([study.deeds_at(node)[-1][1] for node in (1, 2, 3, 4, 5)], [(3, 5), (5, 5), (7, 5), (1, 5), (1, 0)])
        self.same((study.parent(5), study.add(0, ("strike", (9, 9)))), (1, 6))
        self.same((len(first), len(second)), (4, 4))

    def test_the_number_of_nodes(self):
        first, second, deeds = Study(Game(1)), Study(Game(1)), shuttle(50)
        chain(first, 0, deeds)
        chain(first, 0, [("strike", (60, 60)), *deeds[1:]])
        chain(second, 0, [("strike", (61, 60)), *deeds[1:100]])
        chain(second, 0, deeds)
        self.refused(TooMany, {"most": 300}, merged, first, second)
        self.refused(TooMany, {"most": 300}, merged, second, first)
        self.same((len(first), len(second)), (201, 201))
        second.prune(100)
        study = merged(first, second)
        self.same((len(study), len(study.lines())), (300, 3))
        self.refused(TooMany, {"most": 300}, study.add, 0, ("strike", (9, 9)))


if __name__ == "__main__":
    unittest.main()
