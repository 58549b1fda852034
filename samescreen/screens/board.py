"""A screen that is changed in place, so that screens themselves never are."""

from samescreen.screens.screen import MOST_HISTORY, blank_cells, copied_rows


class Board:
    """The parts of a screen as attributes; it shares no list with any screen."""

    def __init__(self, screen):
        self.take_over(screen)

    def take_over(self, screen):
        """Become a copy of a screen."""
        cells, cursor, pen, band, wraps, saved, history = screen
        self.cells = copied_rows(cells)
        self.rows = len(cells)
        self.columns = len(cells[0])
        self.row, self.column = cursor
        self.pen = pen
        self.top, self.bottom = band
        self.wraps = wraps
        self.saved = saved
        self.history = copied_rows(history)

    def as_screen(self):
        """Return the screen, with new lists."""
        return (
            copied_rows(self.cells),
            (self.row, self.column),
            self.pen,
            (self.top, self.bottom),
            self.wraps,
            self.saved,
            copied_rows(self.history),
        )

    def is_behind(self):
        """Tell if the cursor is behind the last column."""
        return self.column == self.columns

    def come_back(self):
        """Take a cursor behind the last column to the last column."""
        self.column = min(self.column, self.columns - 1)

    def move_to(self, row, column):
        """Take the cursor to the place on the screen that is nearest to this one."""
        self.row = max(0, min(row, self.rows - 1))
        self.column = max(0, min(column, self.columns - 1))

    def blanks(self, count):
        """Return new blank cells with the present pen."""
        return blank_cells(count, self.pen)

    def scroll_up(self, top, bottom):
        """Scroll up the rows from top to bottom; return the row that is removed."""
        removed = self.cells.pop(top)
        self.cells.insert(bottom, self.blanks(self.columns))
        return removed

    def scroll_down(self, top, bottom):
        """Scroll down the rows from top to bottom."""
        self.cells.pop(bottom)
        self.cells.insert(top, self.blanks(self.columns))

    def remember(self, row):
        """Append a row to the history, which drops its oldest row if it is full."""
        self.history.append(row)
        if len(self.history) > MOST_HISTORY:
            self.history.pop(0)

    def is_in_band(self):
        """Tell if the cursor's row is in the band."""
        return self.top <= self.row <= self.bottom
