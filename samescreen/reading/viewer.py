"""Viewers: a screen that follows the bytes which arrive."""

from samescreen.reading.reader import Reader
from samescreen.screens.actions import act
from samescreen.screens.board import Board
from samescreen.screens.screen import start_screen


class Viewer:
    """Carries out each deed of the bytes that it is fed on its screen."""

    def __init__(self, rows, columns):
        self.board = Board(start_screen(rows, columns))
        self.reader = Reader()

    def feed(self, part):
        """Read further bytes and carry out their deeds; return how many there were."""
        return len(self.follow(part))

    def follow(self, part):
        """Read further bytes and carry out their deeds; return these deeds."""
        deeds = self.reader.feed(part)
        for deed in deeds:
            act(self.board, deed)
        return deeds

    def screen(self):
        """Return the screen."""
        return self.board.as_screen()

    def rest(self):
        """Return the bytes of the sequence that is open."""
        return self.reader.rest()

    def copy(self):
        """Return an independent viewer in the same state."""
        twin = Viewer(self.board.rows, self.board.columns)
        twin.board = Board(self.board.as_screen())
        twin.reader = self.reader.copy()
        return twin
