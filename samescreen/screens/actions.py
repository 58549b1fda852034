"""What each deed does to a board (points 105 to 108)."""

from samescreen.screens.screen import untested_start

TAB_WIDTH = 8

# Point 103: every other deed first takes a cursor back from behind the last column.
STAYING = ("write", "pen", "save")


def write(board, char):
    if board.is_behind() and board.wraps:
        to_first_column(board)
        line(board)
    board.come_back()
    board.cells[board.row][board.column] = (char, board.pen)
    board.column += 1


def to_first_column(board):
    board.column = 0


def line(board):
    if board.row != board.bottom:
        down(board, 1)
        return
    removed = board.scroll_up(board.top, board.bottom)
    if board.top == 0:
        board.remember(removed)


def rise(board):
    if board.row != board.top:
        up(board, 1)
        return
    board.scroll_down(board.top, board.bottom)


def back(board):
    left(board, 1)


def tab(board):
    board.move_to(board.row, (board.column // TAB_WIDTH + 1) * TAB_WIDTH)


def up(board, n):
    board.move_to(board.row - n, board.column)


def down(board, n):
    board.move_to(board.row + n, board.column)


def left(board, n):
    board.move_to(board.row, board.column - n)


def right(board, n):
    board.move_to(board.row, board.column + n)


def go(board, row, column):
    board.move_to(row, column)


def clear_row(board, part):
    start = 0
    stop = board.columns
    if part == 0:
        start = board.column
    if part == 1:
        stop = board.column + 1
    board.cells[board.row][start:stop] = board.blanks(stop - start)


def clear_screen(board, part):
    clear_row(board, part)
    start = 0
    stop = board.rows
    if part == 0:
        start = board.row + 1
    if part == 1:
        stop = board.row
    for row in range(start, stop):
        board.cells[row] = board.blanks(board.columns)


def insert_cells(board, n):
    row = board.cells[board.row]
    longer = row[:board.column] + board.blanks(n) + row[board.column:]
    board.cells[board.row] = longer[:board.columns]


def delete_cells(board, n):
    row = board.cells[board.row]
    shorter = row[:board.column] + row[board.column + n:]
    board.cells[board.row] = shorter + board.blanks(board.columns - len(shorter))


def insert_rows(board, n):
    if not board.is_in_band():
        return
    for _ in range(useful_scrolls(board, n)):
        board.scroll_down(board.row, board.bottom)
    to_first_column(board)


def delete_rows(board, n):
    if not board.is_in_band():
        return
    for _ in range(useful_scrolls(board, n)):
        board.scroll_up(board.row, board.bottom)
    to_first_column(board)


def useful_scrolls(board, n):
    # Rows that are all blank already look the same after further scrolls.
    return min(n, board.bottom - board.row + 1)


def set_pen(board, pen):
    board.pen = pen


def set_band(board, top, bottom):
    last = board.rows - 1
    if bottom is not None:
        last = min(bottom, last)
    if top < last:
        board.top = top
        board.bottom = last
        board.move_to(0, 0)


def set_wrap(board, flag):
    board.wraps = flag


def save(board):
    board.saved = (board.row, board.column, board.pen)


def restore(board):
    board.row, board.column, board.pen = board.saved


def reset(board):
    history = board.history
    board.take_over(untested_start(board.rows, board.columns))
    board.history = history


ACTIONS = {
    "write": write,
    "return": to_first_column,
    "line": line,
    "rise": rise,
    "back": back,
    "tab": tab,
    "up": up,
    "down": down,
    "left": left,
    "right": right,
    "go": go,
    "clear_row": clear_row,
    "clear": clear_screen,
    "insert": insert_cells,
    "delete": delete_cells,
    "insert_rows": insert_rows,
    "delete_rows": delete_rows,
    "pen": set_pen,
    "band": set_band,
    "wrap": set_wrap,
    "save": save,
    "restore": restore,
    "reset": reset,
}


def act(board, deed):
    """Carry out a deed on a board."""
    word, *numbers = deed
    if word not in STAYING:
        board.come_back()
    action = ACTIONS[word]
    action(board, *numbers)
