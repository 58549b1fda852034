"""Checks that updates have the fewest bytes."""
