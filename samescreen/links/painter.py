"""Painters: a screen that is changed, and the bytes that tell how."""

from samescreen.deeds.writing import tested_bytes
from samescreen.errors import NotADeed
from samescreen.screens.actions import act
from samescreen.screens.board import Board
from samescreen.screens.deeds import is_deed
from samescreen.screens.screen import start_screen
from samescreen.updates.plans import told_update


class Painter:
    """Changes its present screen, and writes the bytes of the deeds that it carries out."""

    def __init__(self, rows, columns):
        self.board = Board(start_screen(rows, columns))
        self.byte_count = 0

    def paint(self, target):
        """Give the present screen the look of a target; return the bytes."""
        return self.play(told_update(self.screen(), target))

    def do(self, deed):
        """Carry out a deed; return its bytes."""
        if not is_deed(deed):
            raise NotADeed(0)
        return self.play([deed])

    def play(self, deeds):
        """Carry out what are known to be deeds; return their bytes."""
        data = []
        for deed in deeds:
            act(self.board, deed)
            data.extend(tested_bytes(deed))
        self.byte_count += len(data)
        return data

    def screen(self):
        """Return the present screen."""
        return self.board.as_screen()

    def written(self):
        """Return the number of all bytes that were written."""
        return self.byte_count

    def copy(self):
        """Return an independent painter in the same state."""
        twin = Painter(self.board.rows, self.board.columns)
        twin.board = Board(self.board.as_screen())
        twin.byte_count = self.byte_count
        return twin
