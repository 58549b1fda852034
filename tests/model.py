"""A second telling of points 103 to 108, cell by cell, to compare the program with."""


def redrawn(screen, origin):
    """Each cell comes from the place that origin tells, or is blank if it tells None."""
    cells, pen = screen[0], screen[2]
    drawn = []
    for row in range(len(cells)):
        drawn.append([])
        for column in range(len(cells[0])):
            place = origin(row, column)
            drawn[row].append((" ", pen) if place is None else cells[place[0]][place[1]])
    return drawn


def replaced(screen, **parts):
    names = ("cells", "cursor", "pen", "band", "wraps", "saved", "history")
    return tuple(parts.get(name, value) for name, value in zip(names, screen))


def scrolled(screen, top, bottom, by):
    """The rows move up by so many; down if the number is negative."""

    def origin(row, column):
        if not top <= row <= bottom:
            return (row, column)
        return (row + by, column) if top <= row + by <= bottom else None

    return replaced(screen, cells=redrawn(screen, origin))


def nearest(screen, row, column):
    rows, columns = len(screen[0]), len(screen[0][0])
    return (sorted((0, row, rows - 1))[1], sorted((0, column, columns - 1))[1])


def moved(screen, row, column):
    return replaced(screen, cursor=nearest(screen, row, column))


def after(screen, deed):
    word = deed[0]
    if word not in ("write", "pen", "save"):
        screen = moved(screen, *screen[1])
    return PLAYS[word](screen, *deed[1:])


def write(screen, char):
    columns = len(screen[0][0])
    if screen[1][1] == columns:
        if screen[4]:
            screen = after(after(screen, ("return",)), ("line",))
        else:
            screen = moved(screen, *screen[1])
    row, column = screen[1]
    cells = redrawn(screen, lambda r, c: (r, c))
    cells[row][column] = (char, screen[2])
    return replaced(screen, cells=cells, cursor=(row, column + 1))


def line(screen):
    (row, column), (top, bottom) = screen[1], screen[3]
    if row != bottom:
        return moved(screen, row + 1, column)
    history = screen[6]
    if top == 0:
        history = (history + [screen[0][0]])[-50:]
    return replaced(scrolled(screen, top, bottom, 1), history=history)


def rise(screen):
    (row, column), (top, bottom) = screen[1], screen[3]
    return scrolled(screen, top, bottom, -1) if row == top else moved(screen, row - 1, column)


def tab(screen):
    row, column = screen[1]
    columns = len(screen[0][0])
    stops = [stop for stop in (8, 16, 24, 32) if column < stop < columns]
    return moved(screen, row, stops[0] if stops else columns - 1)


def step(rows, columns):
    return lambda screen, n=1: moved(screen, screen[1][0] + rows * n, screen[1][1] + columns * n)


def in_row_part(screen, part, row, column):
    cursor_row, cursor_column = screen[1]
    return row == cursor_row and (part == 2 or (column >= cursor_column if part == 0 else column <= cursor_column))


def clear_row(screen, part):
    return replaced(screen, cells=redrawn(
        screen, lambda r, c: None if in_row_part(screen, part, r, c) else (r, c)))


def clear(screen, part):
    below = (lambda row: row > screen[1][0], lambda row: row < screen[1][0], lambda row: True)[part]
    return replaced(screen, cells=redrawn(
        screen, lambda r, c: None if below(r) or in_row_part(screen, part, r, c) else (r, c)))


def shift(sign):
    def play(screen, n):
        cursor_row, cursor_column = screen[1]
        columns = len(screen[0][0])

        def origin(row, column):
            if row != cursor_row or column < cursor_column:
                return (row, column)
            return (row, column + sign * n) if cursor_column <= column + sign * n < columns else None

        return replaced(screen, cells=redrawn(screen, origin))

    return play


def shift_rows(sign):
    def play(screen, n):
        row = screen[1][0]
        top, bottom = screen[3]
        if row < top or row > bottom:
            return screen
        return replaced(scrolled(screen, row, bottom, sign * n), cursor=(row, 0))

    return play


def band(screen, top, bottom):
    last = len(screen[0]) - 1
    bottom = last if bottom is None or bottom > last else bottom
    return replaced(screen, band=(top, bottom), cursor=(0, 0)) if top < bottom else screen


def reset(screen):
    rows, columns = len(screen[0]), len(screen[0][0])
    cells = [[(" ", 0)] * columns for _ in range(rows)]
    return (cells, (0, 0), 0, (0, rows - 1), True, (0, 0, 0), screen[6])


PLAYS = {
    "write": write,
    "return": lambda screen: moved(screen, screen[1][0], 0),
    "line": line,
    "rise": rise,
    "back": step(0, -1),
    "tab": tab,
    "up": step(-1, 0),
    "down": step(1, 0),
    "left": step(0, -1),
    "right": step(0, 1),
    "go": moved,
    "clear_row": clear_row,
    "clear": clear,
    "insert": shift(-1),
    "delete": shift(1),
    "insert_rows": shift_rows(-1),
    "delete_rows": shift_rows(1),
    "pen": lambda screen, pen: replaced(screen, pen=pen),
    "band": band,
    "wrap": lambda screen, flag: replaced(screen, wraps=flag),
    "save": lambda screen: replaced(screen, saved=screen[1] + (screen[2],)),
    "restore": lambda screen: replaced(screen, cursor=screen[5][:2], pen=screen[5][2]),
    "reset": reset,
}
