"""Patterns: which columns of a wall must be struck for a cell at each level."""

from neverpenned.checks import check_length, check_number
from neverpenned.errors import NotHeld

LEVEL_MOST = 250
COLUMNS_MOST = 300

# The patterns of the levels 1, 2, 3, 4 and 5; there are none for greater levels.
PATTERNS = (
    ((-1, 0, 1),),
    ((-1, 0, 1), (-1, 0, 2), (-2, 0, 1)),
    ((-1, 1), (-1, 0, 2), (-2, 0, 1)),
    ((0, 1), (-1, 0)),
    ((0,),),
)


def patterns(level):
    """Return the tuple of the patterns of the level."""
    check_number(level, 1, LEVEL_MOST)
    return patterns_of(level)


def holds(level, columns):
    """Tell whether the relative columns hold the level."""
    _check_arguments(level, columns)
    return holds_level(level, columns)


def lacking(level, columns):
    """Return the empty list if the relative columns hold the level, otherwise the list of the lacking column."""
    _check_arguments(level, columns)
    return lacking_columns(level, columns)


def patterns_of(level):
    """Return what `patterns` returns, for any level from 1 on."""
    return PATTERNS[level - 1] if level <= len(PATTERNS) else ()


def holds_level(level, columns):
    """Return what `holds` returns, for any level from 1 on."""
    if level > len(PATTERNS):
        return True
    return any([len(_lacks(pattern, columns)) == 0 for pattern in patterns_of(level)])


def lacking_columns(level, columns):
    """Return what `lacking` returns, for any level from 1 on."""
    if holds_level(level, columns):
        return []
    for pattern in patterns_of(level):
        lacks = _lacks(pattern, columns)
        if len(lacks) == 1:
            return lacks
    raise NotHeld(level)


def _lacks(pattern, columns):
    """Return those relative columns of the pattern that are not among the columns."""
    return [column for column in pattern if column not in columns]


def _check_arguments(level, columns):
    """Raise BadNumber for the level, then TooMany or BadNumber for the columns."""
    check_number(level, 1, LEVEL_MOST)
    check_length(columns, COLUMNS_MOST)
    for column in columns:
        check_number(column, -LEVEL_MOST, LEVEL_MOST)
