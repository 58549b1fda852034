"""A second telling of points 501 to 505: the steps, straight from the words of the document."""

from samescreen.deeds.writing import bytes_of
from tests import moves_model


def size_of_screen(screen):
    return (len(screen[0]), len(screen[0][0]))


def flat(screen):
    return [cell for row in screen[0] for cell in row]


def reaching(p, cursor, pen, place, wanted_pen):
    """The deeds of point 503."""
    moves = moves_model.told(size_of_screen(p), p[3], cursor)[place][3]
    return list(moves) + ([("pen", wanted_pen)] if pen != wanted_pen else [])


def are_spaces_with_one_pen(cells):
    return all(char == " " for char, _ in cells) and len({pen for _, pen in cells}) == 1


def steps(p, q, situation):
    i, cursor, pen = situation
    rows, columns = size_of_screen(p)
    old, new = flat(p), flat(q)
    if i == rows * columns:
        return [("end", end_deeds(p, q, cursor, pen), None)]
    row = i // columns
    column = i - columns * row
    char, wanted = new[i]
    reach = reaching(p, cursor, pen, (row, column), wanted)
    found = []
    if old[i] == new[i]:
        found.append(("leave", [], (i + 1, cursor, pen)))
    if are_spaces_with_one_pen(new[i:]):
        found.append(("clear", reach + [("clear", 0)], (rows * columns, (row, column), wanted)))
    if are_spaces_with_one_pen(q[0][row][column:]):
        found.append(("clear_row", reach + [("clear_row", 0)], (columns * (row + 1), (row, column), wanted)))
    found.append(("write", reach + [("write", char)], (i + 1, (row, column + 1), wanted)))
    return found


def end_deeds(p, q, cursor, pen):
    goal, goal_pen = q[1:3]
    if goal[1] < len(q[0][0]):
        return reaching(p, cursor, pen, goal, goal_pen)
    if cursor == goal:
        return [("pen", goal_pen)] if pen != goal_pen else []
    char, cell_pen = q[0][goal[0]][-1]
    deeds = reaching(p, cursor, pen, (goal[0], goal[1] - 1), cell_pen) + [("write", char)]
    return deeds + ([("pen", goal_pen)] if goal_pen != cell_pen else [])


def situations_of(p, q):
    """All situations that steps lead to from the first one."""
    found = [(0, p[1], p[2])]
    seen = set(found)
    for situation in found:
        for _, _, after in steps(p, q, situation):
            if after is not None and after not in seen:
                seen.add(after)
                found.append(after)
    return found


def size_of_deeds(deeds):
    return sum(len(bytes_of(deed)) for deed in deeds)


def all_plans(p, q, situation=None):
    """All plans from a situation on, each as its words and its deeds; the steps in their order."""
    if situation is None:
        situation = (0, p[1], p[2])
    for word, deeds, after in steps(p, q, situation):
        if after is None:
            yield [word], deeds
            continue
        for words, more in all_plans(p, q, after):
            yield [word] + words, deeds + more


def least_rests(p, q):
    """For each situation that steps lead to: the least size to the end, and the first words and deeds with it."""
    found = {}
    for situation in sorted(situations_of(p, q), reverse=True):
        ways = []
        for word, deeds, after in steps(p, q, situation):
            size, words, more = found[after] if after is not None else (0, [], [])
            ways.append((size_of_deeds(deeds) + size, [word] + words, deeds + more))
        found[situation] = min(ways, key=lambda way: way[0])
    return found


def tight(p, q):
    """The paper of point 604."""
    return {situation: way[0] for situation, way in least_rests(p, q).items()}


def is_bound(p, q, paper):
    """Point 602, situation by situation."""
    rows, columns = size_of_screen(p)
    cursors = moves_model.cursors_of((rows, columns))
    for (i, cursor, pen), number in paper.items():
        if not 0 <= i <= rows * columns or cursor not in cursors or not 0 <= pen <= 15 or number < 0:
            return False
        for _, deeds, after in steps(p, q, (i, cursor, pen)):
            rest = 0 if after is None else paper.get(after)
            if rest is None or number > size_of_deeds(deeds) + rest:
                return False
    return (0, p[1], p[2]) in paper
