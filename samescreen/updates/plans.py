"""Plans: lists of steps from one screen to another, and the one that is told."""

from samescreen.errors import NoStep
from samescreen.updates.change import Change
from samescreen.updates.sizes import least_sizes, size_from
from samescreen.updates.steps import first_situation


def least_size(p, q):
    """Return the least size of all plans."""
    first = first_situation(p)
    return least_sizes(Change(p, q), first)[first]


def told_plan(p, q):
    """Return the words of the told plan."""
    return [step.word for _, step in told_steps(Change(p, q), first_situation(p))]


def told_update(p, q):
    """Return the deeds of the told plan."""
    change = Change(p, q)
    deeds = []
    for situation, step in told_steps(change, first_situation(p)):
        deeds.extend(change.deeds_of(step, situation))
    return deeds


def told_steps(change, first):
    """Return the steps of the told plan, each behind the situation in which it is made."""
    sizes = least_sizes(change, first)
    told = []
    situation = first
    while situation is not None:
        step = first_best(change, situation, sizes)
        told.append((situation, step))
        situation = step.after
    return told


def first_best(change, situation, sizes):
    """Return the first step from a situation that begins a plan with the least size for the rest."""
    for step in change.steps_from(situation):
        size = change.size_of_step(step, situation) + size_from(sizes, step.after)
        if size == sizes[situation]:
            return step


def plan_deeds(p, q, words):
    """Return the deeds of the plan with these words."""
    change = Change(p, q)
    situation = first_situation(p)
    deeds = []
    for k, word in enumerate(words):
        step = step_with(change, situation, word)
        if step is None:
            raise NoStep(k)
        deeds.extend(change.deeds_of(step, situation))
        situation = step.after
    if situation is not None:
        raise NoStep(len(words))
    return deeds


def step_with(change, situation, word):
    """Return the step with a word from a situation, or None; there is none behind the end."""
    if situation is None:
        return None
    for step in change.steps_from(situation):
        if step.word == word:
            return step
    return None
