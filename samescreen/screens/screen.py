"""Screens: what they are, how they start, and what is shown of them."""

from samescreen.errors import OutOfRange

MOST_ROWS = 12
MOST_COLUMNS = 40
MOST_PEN = 15
MOST_HISTORY = 50

FIRST_CHAR = 32
LAST_CHAR = 126
PERCENT_SIGN = 37


def start_screen(rows, columns):
    """Return a screen of this size at its start."""
    if not is_number(rows, 1, MOST_ROWS):
        raise OutOfRange(0)
    if not is_number(columns, 1, MOST_COLUMNS):
        raise OutOfRange(1)
    return untested_start(rows, columns)


def untested_start(rows, columns):
    """Return a screen at its start, whatever its size."""
    cells = [blank_cells(columns, 0) for row in range(rows)]
    return (cells, (0, 0), 0, (0, rows - 1), True, (0, 0, 0), [])


def blank_cells(count, pen):
    """Return a new list of blank cells with this pen."""
    return [(" ", pen)] * count


def copied_rows(rows):
    """Return a new list of new rows with the same cells."""
    return [list(row) for row in rows]


def is_screen(screen):
    """Tell if a tuple of the right kinds is a screen."""
    cells, cursor, pen, band, _, saved, history = screen
    if not is_size(cells):
        return False
    rows = len(cells)
    columns = len(cells[0])
    return (
        are_rows(cells, columns)
        and is_cursor(cursor, rows, columns)
        and is_pen(pen)
        and is_band(band, rows)
        and is_cursor(saved[:2], rows, columns)
        and is_pen(saved[2])
        and len(history) <= MOST_HISTORY
        and are_rows(history, columns)
    )


def is_size(cells):
    """Tell if the number of rows and the length of the first one are in their ranges."""
    return 1 <= len(cells) <= MOST_ROWS and 1 <= len(cells[0]) <= MOST_COLUMNS


def are_rows(rows, columns):
    """Tell if each row has this many cells and nothing else."""
    return all([len(row) == columns and are_cells(row) for row in rows])


def are_cells(row):
    """Tell if all pairs of a row are cells."""
    return all([is_char(char) and is_pen(pen) for char, pen in row])


def is_char(value):
    """Tell if a value is a character of screens."""
    if not isinstance(value, str) or len(value) != 1:
        return False
    return FIRST_CHAR <= ord(value) <= LAST_CHAR and ord(value) != PERCENT_SIGN


def is_pen(value):
    """Tell if a value is a pen."""
    return is_number(value, 0, MOST_PEN)


def is_number(value, least, greatest):
    """Tell if a value is an integer in this range; True and False are none."""
    return isinstance(value, int) and not isinstance(value, bool) and least <= value <= greatest


def is_cursor(cursor, rows, columns):
    """Tell if a pair is a cursor on a screen of this size or behind a last column."""
    row, column = cursor
    return 0 <= row < rows and 0 <= column <= columns


def is_band(band, rows):
    """Tell if a pair is a band of a screen with this many rows."""
    top, bottom = band
    return 0 <= top <= bottom < rows


def look(screen):
    """Return the look of a screen: its cells, its cursor and its pen."""
    cells, cursor, pen = screen[:3]
    return (copied_rows(cells), cursor, pen)


def shown_text(screen):
    """Return the characters of the cells, with a newline behind each row."""
    return "".join([row_text(row) + "\n" for row in screen[0]])


def row_text(row):
    """Return the characters of a row."""
    return "".join([cell[0] for cell in row])
