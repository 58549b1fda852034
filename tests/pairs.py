"""Pairs of screens of the same size, the second one near the first in many of them."""

from tests.making import PEN, made
from tests.test_against_model import drawn_numbers

SIZES = ((1, 1), (1, 2), (2, 1), (1, 9), (2, 3), (3, 4), (3, 2), (12, 1))


def drawn_cell(numbers):
    number = next(numbers) & 31
    if number < 16:
        return (" ", (0, 0, 0, PEN, 10)[number % 5])
    return ("ab~"[number % 3], (0, 0, PEN, 9, 15)[number % 5])


def drawn_cells(numbers, size):
    return [[drawn_cell(numbers) for _ in range(size[1])] for _ in range(size[0])]


def drawn_screen(numbers, size, cells):
    rows, columns = size
    bottom = next(numbers) % rows
    cursor = (next(numbers) % rows, next(numbers) % (columns + 1))
    pen = (0, 0, PEN, 9, 15)[next(numbers) % 5]
    band = (next(numbers) % (bottom + 1), bottom) if next(numbers) & 1 else (0, rows - 1)
    saved = (next(numbers) % rows, next(numbers) % (columns + 1), next(numbers) & 15)
    history = [[drawn_cell(numbers) for _ in range(columns)] for _ in range(next(numbers) & 3)]
    return (cells, cursor, pen, band, next(numbers) & 1 == 1, saved, history)


def near_cells(numbers, cells):
    """The cells with some of them blank, some others, or blank from some cell on."""
    near = [list(row) for row in cells]
    for row in near:
        kind = next(numbers) & 3
        start = next(numbers) % len(row)
        if kind == 0:
            row[start:] = [(" ", next(numbers) & 1)] * (len(row) - start)
        elif kind == 1:
            row[start] = drawn_cell(numbers)
    if next(numbers) & 3 == 0:
        start = next(numbers) % len(near)
        near[start:] = [[(" ", 0)] * len(row) for row in near[start:]]
    return near


def drawn_pair(seed, size):
    numbers = drawn_numbers(seed)
    # The first numbers of near seeds are near to each other.
    for _ in range(5):
        next(numbers)
    cells = drawn_cells(numbers, size)
    others = near_cells(numbers, cells) if next(numbers) & 3 else drawn_cells(numbers, size)
    return drawn_screen(numbers, size, cells), drawn_screen(numbers, size, others)


def drawn_pairs(count, sizes=SIZES):
    return [drawn_pair(997 * seed + size[1], size) for size in sizes for seed in range(count)]


def wrong_sizes():
    """Pairs of screens of different sizes, some of them with the same number of cells."""
    texts = (("ab",), ("a", "b"), ("abc",), ("ab", "cd"), ("abcd",), ("ab", "cd", "ef"), ("abc", "def"))
    return [(made(first), made(second)) for first in texts for second in texts if first != second]
