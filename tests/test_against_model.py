"""Every deed on many screens, compared with the second telling in model.py."""

import copy
import itertools
import unittest

from samescreen.screens.deeds import carry_out, carry_out_all, is_deed
from samescreen.screens.screen import is_screen, start_screen
from tests import model
from tests.making import PEN, ScreenCase, rows_of

LETTERS = "abcdefghijklmnopqrstuvwxyz"

DEEDS = (
    [(word,) for word in ("return", "line", "rise", "back", "tab", "save", "restore", "reset")]
    + [("write", char) for char in "X ~"]
    + [(word, n) for word in ("up", "down", "left", "right") for n in (1, 2, 5, 9999)]
    + [(word, n) for word in ("insert", "delete", "insert_rows", "delete_rows") for n in (1, 2, 3, 9999)]
    + [(word, part) for word in ("clear_row", "clear") for part in (0, 1, 2)]
    + [("go", row, column) for row in (0, 1, 9998) for column in (0, 2, 8, 9998)]
    + [("band", top, bottom) for top in (0, 1, 2, 9998) for bottom in (0, 1, 2, 9998, None)]
    + [("pen", pen) for pen in (0, 5, 15)]
    + [("wrap", flag) for flag in (True, False)]
)


def screens_of(rows, columns):
    texts = [(LETTERS * 2)[3 * row:3 * row + columns] for row in range(rows)]
    bands = [(top, bottom) for bottom in range(rows) for top in range(bottom + 1)]
    histories = (["Z" * columns], ["Y" * columns] * 49 + ["Z" * columns])
    cursors = list(itertools.product(range(rows), range(columns + 1)))
    for cursor, band, wraps, history in itertools.product(cursors, bands, (True, False), histories):
        saved = (rows - 1, columns, 9)
        yield (rows_of(texts), cursor, PEN, band, wraps, saved, rows_of(history))


def drawn_numbers(seed):
    """Numbers without any plain order, the same ones in every run."""
    while True:
        seed = (seed * 1103515245 + 12345) & 0x7FFFFFFF
        yield seed >> 8


def drawn_deed(numbers, rows, columns):
    number = next(numbers)
    if number & 3 == 0:
        return ("write", "abcXYZ 0"[next(numbers) & 7])
    if number & 3 == 1:
        return ("go", next(numbers) % (rows + 1), next(numbers) % (columns + 2))
    return DEEDS[next(numbers) % len(DEEDS)]


def drawn_deeds(seed, rows, columns, count):
    numbers = drawn_numbers(seed)
    deeds = [drawn_deed(numbers, rows, columns) for _ in range(count)]
    return [deed for deed in deeds if deed != ("reset",) or next(numbers) & 7 == 0]


class EveryDeed(ScreenCase):
    def compare(self, rows, columns):
        for screen in screens_of(rows, columns):
            before = copy.deepcopy(screen)
            for deed in DEEDS:
                found = carry_out(screen, deed)
                if found != model.after(screen, deed):
                    self.fail("another screen than the model's: " + repr((screen, deed)))
            self.assert_same(screen, before)

    def test_the_deeds_are_deeds(self):
        for deed in DEEDS:
            self.assertIs(is_deed(deed), True, deed)
        self.assertEqual({deed[0] for deed in DEEDS}, set(model.PLAYS))

    def test_one_cell(self):
        self.compare(1, 1)

    def test_one_row(self):
        self.compare(1, 9)

    def test_one_column(self):
        self.compare(3, 1)

    def test_more_rows_and_columns(self):
        self.compare(3, 4)


class ManyDeeds(ScreenCase):
    def test_long_lists(self):
        for seed, (rows, columns) in enumerate(((1, 1), (2, 9), (5, 7), (3, 17), (12, 40), (12, 3))):
            deeds = drawn_deeds(seed, rows, columns, 400)
            wanted = start_screen(rows, columns)
            for deed in deeds:
                wanted = model.after(wanted, deed)
            found = carry_out_all(start_screen(rows, columns), deeds)
            self.assertTrue(is_screen(found))
            self.assert_same(found, wanted)


if __name__ == "__main__":
    unittest.main()
