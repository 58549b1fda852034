"""Bytes that are read as deeds, in any pieces."""
