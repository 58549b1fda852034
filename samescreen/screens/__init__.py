"""Screens and the deeds that change them."""
