"""Words of loops: how a walk goes on from each edge to the next one."""

from neverpenned.checks import check_length
from neverpenned.edges import cells_ahead, check_edge, edge_beside
from neverpenned.errors import BadLetter, NotClosed
from neverpenned.loops import LOOP_MOST, Loop

LETTERS = "lsr"


def word_of(loop):
    """Return the word of the loop."""
    following = [*loop.edges[1:], *loop.edges[:1]]
    letters = []
    for at, edge in enumerate(loop.edges):
        letter = _letter_between(edge, following[at])
        if letter is None:
            raise BadLetter(at)
        letters.append(letter)
    return "".join(letters)


def walk_of(edge, word):
    """Return the list of the edge and of those to which the letters of the word lead, one after the other."""
    check_edge(edge)
    check_length(word, LOOP_MOST)
    _check_letters(word)
    walk = [edge]
    for letter in word:
        walk.append(edge_beside(walk[-1], cells_ahead(walk[-1]), letter))
    return walk


def loop_of(edge, word):
    """Return the loop that begins with the edge and has this word."""
    walk = walk_of(edge, word)
    for reached in walk:
        check_edge(reached)
    if walk[-1] != edge:
        raise NotClosed(0)
    return Loop(walk[:-1])


def _letter_between(edge, after):
    """Return the letter of the step between the edges, or None if the second is the first turned about."""
    cells = cells_ahead(edge)
    for letter in LETTERS:
        if edge_beside(edge, cells, letter) == after:
            return letter
    return None


def _check_letters(word):
    """Raise BadLetter for the first character of the word that is no letter of words."""
    for at, letter in enumerate(word):
        if letter not in LETTERS:
            raise BadLetter(at)
