"""Papers: numbers for situations, which prove that no plan has fewer bytes."""

from samescreen.deeds.writing import tested_size
from samescreen.screens.deeds import carry_out_all, is_deed
from samescreen.screens.screen import is_cursor, is_pen, look
from samescreen.updates.change import Change, all_cells, size_of_screen
from samescreen.updates.plans import least_size, plan_deeds
from samescreen.updates.sizes import least_sizes, size_from
from samescreen.updates.steps import first_situation


def tight_paper(p, q):
    """Return the paper with the greatest numbers: the least sizes themselves."""
    return least_sizes(Change(p, q), first_situation(p))


def is_bound(p, q, paper):
    """Tell if a paper is a bound from below."""
    change = Change(p, q)
    if first_situation(p) not in paper:
        return False
    size = size_of_screen(p)
    for situation in paper:
        if not is_situation(size, situation) or not holds(change, paper, situation):
            return False
    return True


def is_situation(size, key):
    """Tell if a key is a situation for screens of this size."""
    i, cursor, pen = key
    rows, columns = size
    return 0 <= i <= rows * columns and is_cursor(cursor, rows, columns) and is_pen(pen)


def holds(change, paper, situation):
    """Tell if the paper's number for a situation is not too great, whatever step is made."""
    number = paper[situation]
    if number < 0:
        return False
    for size, after in change.priced_steps(situation):
        if after is not None and after not in paper:
            return False
        if number > size + size_from(paper, after):
            return False
    return True


def check_update(p, q, deeds, paper):
    """Tell if deeds are an update, and the paper proves that no plan has fewer bytes."""
    if not is_bound(p, q, paper):
        return False
    if not all([is_deed(deed) for deed in deeds]):
        return False
    after = carry_out_all(p, deeds)
    if look(after) != look(q) or after[3:] != p[3:]:
        return False
    return tested_size(deeds) == paper[first_situation(p)]


def saving(p, q):
    """Return the number of bytes that the told plan saves."""
    words = ["write"] * len(all_cells(p)) + ["end"]
    return tested_size(plan_deeds(p, q, words)) - least_size(p, q)
