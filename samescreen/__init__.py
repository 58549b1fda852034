"""Samescreen: a terminal, and updates of its screen with the fewest bytes."""
