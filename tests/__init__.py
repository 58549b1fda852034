"""Tests of samescreen."""
