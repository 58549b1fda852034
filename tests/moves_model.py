"""A second telling of points 402 to 404: moves by the deeds of model.py, the least ones by a search."""

import functools
import heapq
import itertools

from tests import model
from tests.making import codes, same

WORDS = {"back": "\b", "tab": "\t", "return": "\r", "line": "\n", "rise": "\x1bu"}
LETTERS = {"up": "A", "down": "B", "right": "C", "left": "D"}


def text_of(move):
    """The text of the bytes of a move."""
    if move[0] in WORDS:
        return WORDS[move[0]]
    if move[0] in LETTERS:
        return "\x1b[" + str(move[1]).replace("1", "", move[1] == 1) + LETTERS[move[0]]
    row, column = (str(number + 1) if number else "" for number in move[1:])
    return "\x1b[" + row + (";" + column if column else "") + "H"


def places_of(size):
    return list(itertools.product(range(size[0]), range(size[1])))


def cursors_of(size):
    """All places, and the cursors behind the last column."""
    return list(itertools.product(range(size[0]), range(size[1] + 1)))


def bands_of(size):
    return [(top, bottom) for bottom in range(size[0]) for top in range(bottom + 1)]


@functools.lru_cache(maxsize=None)
def all_moves(size):
    moves = [(word,) for word in WORDS]
    moves += [(word, n) for word in LETTERS for n in range(1, 41)]
    return moves + [("go", row, column) for row, column in places_of(size)]


@functools.lru_cache(maxsize=None)
def landings(size, band, cursor):
    """The moves from a cursor, each with the place to which it leads and its bytes."""
    row = cursor[0]
    cells = [[(" ", 0)] * size[1] for _ in range(size[0])]
    screen = (cells, cursor, 0, band, True, (0, 0, 0), [])
    found = []
    for move in all_moves(size):
        if move[0] == "line" and row in (band[1], size[0] - 1):
            continue
        if move[0] == "rise" and row in (band[0], 0):
            continue
        found.append((move, model.after(screen, move)[1], codes(text_of(move))))
    return found


@functools.lru_cache(maxsize=None)
def told(size, band, cursor):
    """For the cursor and each place: the least size, the least number of moves, the first bytes, the moves."""
    queue = [(0, 0, [], [], cursor)]
    found, known = {}, {}
    while queue:
        length, count, data, moves, here = heapq.heappop(queue)
        if here in found:
            continue
        found[here] = (length, count, data, moves)
        for move, there, written in landings(size, band, here):
            longer = length + len(written)
            if there not in found and longer <= known.get(there, longer):
                known[there] = longer
                heapq.heappush(queue, (longer, count + 1, data + written, moves + [move], there))
    return found


def least_numbers(size, band, cursor):
    """The map of point 404."""
    return {here: way[0] for here, way in told(size, band, cursor).items()}


def proves(size, band, cursor, place, moves, numbers):
    """The check of point 405, number by number."""
    if set(numbers) != {cursor, *places_of(size)} or numbers[cursor] != 0:
        return False
    for here in numbers:
        for _, there, data in landings(size, band, here):
            if numbers[there] > numbers[here] + len(data):
                return False
    here, length = cursor, 0
    for tried in moves:
        fitting = [(there, data) for move, there, data in landings(size, band, here) if same(move, tried)]
        if not fitting:
            return False
        here = fitting[0][0]
        length += len(fitting[0][1])
    return here == place and length == numbers[place]
