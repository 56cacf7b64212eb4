"""Checks of numbers and lengths that many modules share."""

from neverpenned.errors import BadNumber, TooMany


def check_number(number, least, most):
    """Raise BadNumber if the number is not from least to most."""
    if number < least or number > most:
        raise BadNumber(number)


def check_length(items, most):
    """Raise TooMany if the list or text is longer than most."""
    if len(items) > most:
        raise TooMany(most)
