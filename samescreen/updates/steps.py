"""Situations on the way from one screen to another, and the steps between them."""

from samescreen.updates.change import Change


def first_situation(p):
    """Return the situation in which no cell is done."""
    return (0, p[1], p[2])


def steps(p, q, situation):
    """Return the possible steps from a situation: their words, their deeds, the next situations."""
    change = Change(p, q)
    return [(step.word, change.deeds_of(step, situation), step.after) for step in change.steps_from(situation)]
