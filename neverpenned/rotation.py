"""How often loops turn, and what this tells about regions."""

from neverpenned.contours import contours
from neverpenned.turnwords import word_of


def turn_sum(loop):
    """Return the number of left turns in the word of the loop minus the number of right turns."""
    word = word_of(loop)
    return word.count("l") - word.count("r")


def euler(region):
    """Return the number of components minus the number of holes, found from the contours alone."""
    return sum([turn_sum(contour) for contour in contours(region)]) // 4
