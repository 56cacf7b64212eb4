"""Studies: trees of variations of a game."""

from neverpenned.errors import NoNode, NotSame, TooMany
from neverpenned.games import Game
from neverpenned.phases import STRIKE

NODES_MOST = 300
DEPTH_MOST = 100
ROOT = 0


class Study:
    """A tree whose nodes are reached by deeds in a game; the root is the game without deeds."""

    def __init__(self, game):
        self._game = _without_deeds(game)
        self._parents = {ROOT: None}
        self._deeds = {ROOT: None}
        # For each node a dict from the deeds of its children to their numbers, in ascending order of these.
        self._children = {ROOT: {}}
        self._next = ROOT + 1

    def __len__(self):
        return len(self._parents)

    def __eq__(self, other):
        return (isinstance(other, Study) and head_of(self._game) == head_of(other._game)
                and self.lines() == other.lines())

    def nodes(self):
        """Return the list of the numbers of the nodes, ascending."""
        return list(self._parents)

    def parent(self, node):
        """Return the number of the parent, or None for the root."""
        self._check_node(node)
        return self._parents[node]

    def children(self, node):
        """Return the list of the numbers of the children, ascending."""
        self._check_node(node)
        return list(self._children[node].values())

    def depth(self, node):
        """Return the number of deeds on the way from the root to the node."""
        return len(self.deeds_at(node))

    def deeds_at(self, node):
        """Return the list of the deeds from the root to the node."""
        self._check_node(node)
        deeds = []
        reached = node
        while reached != ROOT:
            deeds.append(self._deeds[reached])
            reached = self._parents[reached]
        return deeds[::-1]

    def game_at(self, node):
        """Return the game at the node, a new game."""
        deeds = self.deeds_at(node)
        game = self._game.copy()
        for deed in deeds:
            game.do(deed)
        return game

    def add(self, node, deed):
        """Return the number of the child of the node that has this deed; it is added if there is none."""
        self._check_node(node)
        if deed in self._children[node]:
            return self._children[node][deed]
        self.game_at(node).do(deed)
        if self.depth(node) == DEPTH_MOST:
            raise TooMany(DEPTH_MOST)
        if len(self) == NODES_MOST:
            raise TooMany(NODES_MOST)
        child = self._next
        self._next += 1
        self._parents[child] = node
        self._deeds[child] = deed
        self._children[node][deed] = child
        self._children[child] = {}
        return child

    def prune(self, node):
        """Remove the node and its descendants, and return how many nodes are removed."""
        if node == ROOT:
            raise NoNode(node)
        self._check_node(node)
        del self._children[self._parents[node]][self._deeds[node]]
        waiting = [node]
        removed = 0
        while waiting:
            reached = waiting.pop()
            waiting.extend(list(self.children(reached)))
            del self._parents[reached]
            del self._deeds[reached]
            del self._children[reached]
            removed += 1
        return removed

    def alike(self):
        """Return the list of the sets of nodes that are alike, each an ascending list of at least two nodes."""
        groups = {}
        for node in self._parents:
            groups.setdefault(_state_of(self.game_at(node)), []).append(node)
        return [list(group) for group in groups.values() if len(group) > 1]

    def lines(self):
        """Return the list of the tuples of the deeds from the root to each node without children, ascending."""
        return sorted([tuple(self.deeds_at(node)) for node in self._parents if len(self._children[node]) == 0])

    def _check_node(self, node):
        """Raise NoNode if the study has no such node."""
        if node not in self._parents:
            raise NoNode(node)


def merged(first, second):
    """Return a new study with the lines of both studies."""
    game = first.game_at(ROOT)
    if head_of(game) != head_of(second.game_at(ROOT)):
        raise NotSame()
    study = Study(game)
    for line in [*first.lines(), *second.lines()]:
        node = ROOT
        for deed in line:
            node = study.add(node, deed)
    return study


def head_of(game):
    """Return a tuple of all that two games without deeds may differ in."""
    board = game.board
    return (game.power, game.start, None if board is None else board.cells, game.ways_out, game.before)


def _without_deeds(game):
    """Return a new game with the same beginning."""
    return Game(game.power, game.start, board=game.board, ways_out=game.ways_out, before=game.before)


def _state_of(game):
    """Return a tuple that is equal for two nodes of a study that are alike."""
    return (game.cell, game.phase, tuple(sorted([cell for name, cell in game.deeds if name == STRIKE])))
