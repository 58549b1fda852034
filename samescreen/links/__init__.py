"""Painters, and links that carry what they write."""
