"""Neverpenned: the game of the runner and the breaker, with strategies that always succeed."""
