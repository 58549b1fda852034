"""Moves: which deeds they are, and where they lead."""

from samescreen.deeds.writing import tested_bytes
from samescreen.errors import NoMove
from samescreen.screens.actions import act
from samescreen.screens.board import Board
from samescreen.screens.deeds import is_deed
from samescreen.screens.screen import untested_start

# Point 402: the greatest number of rows or columns that a move goes.
MOST_COUNT = 40

LONE_WORDS = ("back", "tab", "return", "line", "rise")
COUNT_WORDS = ("up", "down", "left", "right")


class Ground:
    """The size and the band of a screen, on which moves are made.

    `sizes` has all deeds that are moves from some cursor, ascending by their
    bytes, each with the number of its bytes.
    """

    def __init__(self, size, band):
        rows, columns = size
        board = Board(untested_start(rows, columns))
        board.top, board.bottom = band
        self.board = board
        self.sizes = move_sizes(rows, columns)

    def is_move(self, cursor, deed):
        """Tell if a tuple as in `is_deed` is a move from a cursor."""
        # True counts as 1 in a dict, so what is no deed has to be sorted out first.
        return is_deed(deed) and deed in self.sizes and self.allows(cursor, deed)

    def allows(self, cursor, move):
        """Tell if a move from some cursor is one from this cursor too."""
        row = cursor[0]
        if move[0] == "line":
            return row not in (self.board.bottom, self.board.rows - 1)
        if move[0] == "rise":
            return row not in (self.board.top, 0)
        return True

    def landing(self, cursor, move):
        """Return the place to which a move leads."""
        board = self.board
        board.row, board.column = cursor
        act(board, move)
        return (board.row, board.column)


def move_sizes(rows, columns):
    """Return the sizes of all moves on a screen of this size, ascending by their bytes."""
    moves = [(word,) for word in LONE_WORDS]
    moves.extend([(word, n) for word in COUNT_WORDS for n in range(1, MOST_COUNT + 1)])
    moves.extend([("go", row, column) for row in range(rows) for column in range(columns)])
    written = sorted([(tested_bytes(move), move) for move in moves])
    return {move: len(data) for data, move in written}


def moves_from(size, band, cursor):
    """Return all moves from a cursor, each with the place to which it leads."""
    ground = Ground(size, band)
    return [(move, ground.landing(cursor, move)) for move in ground.sizes if ground.allows(cursor, move)]


def place_after(size, band, cursor, moves):
    """Return the cursor after all moves, one after the other."""
    ground = Ground(size, band)
    for k, deed in enumerate(moves):
        if not ground.is_move(cursor, deed):
            raise NoMove(k)
        cursor = ground.landing(cursor, deed)
    return cursor
