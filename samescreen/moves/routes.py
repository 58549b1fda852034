"""The least moves between all cursors and places of a screen."""

from samescreen.moves.moves import Ground

# A weight tells the size of moves and, behind it, how many they are: so the
# least weight is that of the fewest moves among those of the least size.
SCALE = 100

# More than moves to any place weigh.
FAR = 1000000

COLUMN_WORDS = ("back", "tab", "return", "left", "right")
ROW_WORDS = ("line", "rise", "up", "down")


class Routes:
    """Tells the weights of the least moves, and the moves themselves.

    Every move but `go` changes only the row or only the column, and where it leads
    there does not depend on the other one. So moves without `go` weigh as much as
    those between the rows and those between the columns together. And before a
    `go` no move is of use.
    """

    def __init__(self, size, band):
        rows, columns = size
        self.last_column = columns - 1
        self.ground = Ground(size, band)
        self.weights = {
            move: SCALE * length + 1 for move, length in self.ground.sizes.items() if stays_inside(size, move)
        }
        # The column behind the last one is among the columns that moves come from.
        self.between_columns = closed([self.column_weights(column) for column in range(columns + 1)])
        self.between_rows = closed([self.row_weights(row) for row in range(rows)])
        # The bytes of a `go` tell the row and the column apart from each other,
        # so the best row and the best column to go to are found apart as well.
        row_jumps = [self.weights[("go", row, 0)] for row in range(rows)]
        corner = row_jumps[0]
        column_jumps = [self.weights[("go", 0, column)] - corner for column in range(columns)]
        self.row_jumps = carried_on(row_jumps, self.between_rows)
        self.column_jumps = carried_on(column_jumps, self.between_columns)

    def column_weights(self, column):
        """Return the weights of the moves from a column to each column."""
        weights = [FAR] * (self.last_column + 2)
        weights[column] = 0
        for (_, there), weight in self.moves_with((0, column), COLUMN_WORDS):
            weights[there] = min(weights[there], weight)
        return weights

    def row_weights(self, row):
        """Return the weights of the moves from a row to each row."""
        weights = [FAR] * self.ground.board.rows
        weights[row] = 0
        for (there, _), weight in self.moves_with((row, 0), ROW_WORDS):
            weights[there] = min(weights[there], weight)
        return weights

    def moves_with(self, cursor, words):
        """Return where the moves with these words lead, and their weights."""
        ground = self.ground
        return [
            (ground.landing(cursor, move), weight)
            for move, weight in self.weights.items()
            if move[0] in words and ground.allows(cursor, move)
        ]

    def weight(self, cursor, place):
        """Return the weight of the least moves from a cursor to a place."""
        row, column = cursor
        to_row, to_column = place
        if row != to_row and column > self.last_column:
            # A move to another row takes the cursor back to the last column. For the
            # row where it is already, that is no use: `tab` alone gets it there too.
            column = self.last_column
        walk = self.between_rows[row][to_row] + self.between_columns[column][to_column]
        jump = self.row_jumps[to_row] + self.column_jumps[to_column]
        return min(walk, jump)

    def least_size(self, cursor, place):
        """Return the size of the least moves from a cursor to a place."""
        return self.weight(cursor, place) // SCALE

    def told_moves(self, cursor, place):
        """Return the told least moves from a cursor to a place."""
        moves = []
        while cursor != place:
            move, cursor = self.first_move(cursor, place)
            moves.append(move)
        return moves

    def first_move(self, cursor, place):
        """Return the first of the told least moves, and the place to which it leads."""
        # No move's bytes begin with those of another one. So among the least moves
        # those with the first bytes are those that begin with the first move.
        whole = self.weight(cursor, place)
        for move, weight in self.weights.items():
            if weight <= whole and self.ground.allows(cursor, move):
                there = self.ground.landing(cursor, move)
                if weight + self.weight(there, place) == whole:
                    return (move, there)


def stays_inside(size, move):
    """Tell if a move leads as far as it tells from some cursor of a screen of this size."""
    # One that goes further leads to the same place as one that goes to the edge,
    # and its bytes are more, or come later.
    if move[0] in ("up", "down"):
        return move[1] < size[0]
    if move[0] in ("left", "right"):
        return move[1] < size[1]
    return True


def closed(table):
    """Return the least weights between all lines, given those of the single moves."""
    least = [list(weights) for weights in table]
    for through in range(len(least)):
        behind = least[through]
        for start in range(len(least)):
            ahead = least[start][through]
            least[start] = [
                weight if weight < ahead + more else ahead + more for weight, more in zip(least[start], behind)
            ]
    return least


def carried_on(jumps, between):
    """Return the least weights of jumps to a line with moves from there to each line."""
    return [
        min([jump + between[line][to] for line, jump in enumerate(jumps)])
        for to in range(len(jumps))
    ]
