"""A second telling of points 501 to 505: the steps, straight from the words of the document."""

from tests import moves_model


def size_of_screen(screen):
    return (len(screen[0]), len(screen[0][0]))


def flat(screen):
    return [cell for row in screen[0] for cell in row]


def reaching(p, cursor, pen, place, wanted_pen):
    """The deeds of point 503."""
    moves = moves_model.told(size_of_screen(p), p[3], cursor)[place][3]
    return list(moves) + ([("pen", wanted_pen)] if pen != wanted_pen else [])


def are_spaces_with_one_pen(cells):
    return all(char == " " for char, _ in cells) and len({pen for _, pen in cells}) == 1


def steps(p, q, situation):
    i, cursor, pen = situation
    rows, columns = size_of_screen(p)
    old, new = flat(p), flat(q)
    if i == rows * columns:
        return [("end", end_deeds(p, q, cursor, pen), None)]
    row = i // columns
    column = i - columns * row
    char, wanted = new[i]
    reach = reaching(p, cursor, pen, (row, column), wanted)
    found = []
    if old[i] == new[i]:
        found.append(("leave", [], (i + 1, cursor, pen)))
    if are_spaces_with_one_pen(new[i:]):
        found.append(("clear", reach + [("clear", 0)], (rows * columns, (row, column), wanted)))
    if are_spaces_with_one_pen(q[0][row][column:]):
        found.append(("clear_row", reach + [("clear_row", 0)], (columns * (row + 1), (row, column), wanted)))
    found.append(("write", reach + [("write", char)], (i + 1, (row, column + 1), wanted)))
    return found


def end_deeds(p, q, cursor, pen):
    goal, goal_pen = q[1:3]
    if goal[1] < len(q[0][0]):
        return reaching(p, cursor, pen, goal, goal_pen)
    if cursor == goal:
        return [("pen", goal_pen)] if pen != goal_pen else []
    char, cell_pen = q[0][goal[0]][-1]
    deeds = reaching(p, cursor, pen, (goal[0], goal[1] - 1), cell_pen) + [("write", char)]
    return deeds + ([("pen", goal_pen)] if goal_pen != cell_pen else [])


def situations_of(p, q):
    """All situations that steps lead to from the first one."""
    found = [(0, p[1], p[2])]
    seen = set(found)
    for situation in found:
        for _, _, after in steps(p, q, situation):
            if after is not None and after not in seen:
                seen.add(after)
                found.append(after)
    return found
