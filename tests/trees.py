"""Studies by the words of the document that the tests share, and studies of many kinds."""

from plays import PlainGame, next_deed
from support import scattered

from neverpenned.studies import Study


class PlainStudy:
    """A study of a plain game; a node is told by the parent and the deed that are kept for its number."""

    def __init__(self, plain):
        self.plain = plain
        self.nodes, self.most = {0: (None, None)}, 0

    def children(self, node):
        return sorted(other for other in self.nodes if self.nodes[other][0] == node)

    def deeds_at(self, node):
        parent, deed = self.nodes[node]
        return [] if parent is None else [*self.deeds_at(parent), deed]

    def game_at(self, node):
        plain = PlainGame(self.plain.power, self.plain.start, self.plain.board, self.plain.ways_out, self.plain.before)
        plain.deeds = self.deeds_at(node)
        return plain

    def add(self, node, deed):
        """The number of the child, which is added if there is none; the deed can be done."""
        for child in self.children(node):
            if self.nodes[child][1] == deed:
                return child
        self.most += 1
        self.nodes[self.most] = (node, deed)
        return self.most

    def prune(self, node):
        gone = [node]
        for other in sorted(self.nodes):
            if self.nodes[other][0] in gone:
                gone.append(other)
        for other in gone:
            del self.nodes[other]
        return len(gone)

    def alike(self):
        groups = {}
        for node in sorted(self.nodes):
            game = self.game_at(node)
            groups.setdefault((game.cell(), game.phase(), tuple(sorted(game.struck()))), []).append(node)
        return sorted(group for group in groups.values() if len(group) > 1)

    def lines(self):
        return sorted(tuple(self.deeds_at(node)) for node in self.nodes if not self.children(node))

    def state(self):
        """All that a study tells about itself, as `state` finds it."""
        return [(node, self.nodes[node][0], self.children(node), len(self.deeds_at(node)), self.deeds_at(node),
                 self.game_at(node).state()[5:10]) for node in sorted(self.nodes)]

    def real(self):
        """The same study, grown node by node; the numbers are those of a study without removed nodes."""
        study, numbers = Study(self.plain.begun()), {0: 0}
        for node in sorted(self.nodes)[1:]:
            parent, deed = self.nodes[node]
            numbers[node] = study.add(numbers[parent], deed)
        return study


def state(study):
    """All that a study tells about itself."""
    told = []
    for node in study.nodes():
        game = study.game_at(node)
        told.append((node, study.parent(node), study.children(node), study.depth(node), study.deeds_at(node),
                     (game.cell, game.phase, game.turn, game.deeds, game.landings())))
    return told


def grown(plain, many, seed=1, narrow=3):
    """A plain study with at most so many more nodes; the deeds are few, so that some nodes are alike."""
    study = PlainStudy(plain)
    for number in scattered(many, 2 ** 20, seed=seed):
        nodes = sorted(study.nodes)
        node = nodes[number % len(nodes)] if number % 4 else nodes[-1]
        deed = next_deed(study.game_at(node), number // 4 % narrow)
        if deed is not None:
            study.add(node, deed)
    return study
