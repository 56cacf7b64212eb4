"""What the tests share: checks of errors and of the kinds of values."""

import unittest

from neverpenned.errors import PlayError

FAR = 10 ** 30


def kinds(value):
    """The value with the kind of every part of it told, so that 1, True and (1,), [1] differ."""
    if isinstance(value, (list, tuple)):
        return (type(value).__name__, [kinds(part) for part in value])
    return (type(value).__name__, value)


def scattered(many, modulus, seed=1):
    """A list of many numbers from 0 to modulus - 1, the same ones in each run."""
    numbers = []
    for _ in range(many):
        seed = (seed * 1103515245 + 12345) % 2 ** 31
        numbers.append((seed >> 8) % modulus)
    return numbers


def grid_cells(code, width, height):
    """The cells of a width by height grid at (0, 0) whose bits are set in the code."""
    return [(at // height, at % height) for at in range(width * height) if code >> at & 1]


class PlayCase(unittest.TestCase):
    """A test case that compares kinds as well as values, and errors with their fields."""

    def same(self, value, expected):
        """The value is equal to the expected one, part by part of the same kind."""
        self.assertEqual(kinds(value), kinds(expected))

    def refused(self, error, fields, call, *args, **named):
        """The call raises exactly this error, with exactly these fields."""
        with self.assertRaises(PlayError) as caught:
            call(*args, **named)
        self.assertIs(type(caught.exception), error)
        told = vars(caught.exception)
        self.assertEqual({name: kinds(told[name]) for name in told}, {name: kinds(fields[name]) for name in fields})

    def fresh(self, call, *args):
        """A list that the call returns can be changed without changing what it returns next."""
        first = call(*args)
        kept = list(first)
        first.append("changed")
        first.reverse()
        self.assertEqual(call(*args), kept)
