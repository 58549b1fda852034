"""Moves: deeds that change nothing but the cursor, and the least of them."""
