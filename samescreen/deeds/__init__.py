"""Deeds as bytes: how they are written, and what bytes mean."""
