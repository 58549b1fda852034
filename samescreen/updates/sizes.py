"""The least sizes of what is left of plans."""


def least_sizes(change, first):
    """Return, for each situation that steps lead to, the least size of the steps from there."""
    sizes = {}
    # Every step leads to a greater index, so the sizes from there on are known already.
    for situations in reversed(change.layers_from(first)):
        for situation in situations:
            priced = change.priced_steps(situation)
            sizes[situation] = min([size + size_from(sizes, after) for size, after in priced])
    return sizes


def size_from(sizes, situation):
    """Return the size from a situation on; behind the end there is nothing left."""
    if situation is None:
        return 0
    return sizes[situation]
