"""Updates that turn the look of one screen into that of another."""
