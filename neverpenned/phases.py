"""The names of the phases of games, two of which are also the names of deeds."""

STRIKE = "strike"
MOVE = "move"
PENNED = "penned"
AWAY = "away"
