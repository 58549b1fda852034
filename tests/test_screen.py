import copy
import itertools
import unittest

from samescreen.errors import OutOfRange
from samescreen.screens.screen import is_screen, look, shown_text, start_screen
from tests.making import PARTS, ScreenCase, changed, made

SIZES = ((1, 1), (1, 40), (12, 1), (12, 40), (2, 3), (5, 8), (11, 39))
CHARS = [chr(code) for code in range(32, 127) if chr(code) != "%"]
NO_CHARS = ["", "ab", "%", "%%", "  ", "\n", "\x00", chr(31), chr(127), chr(160), chr(233), chr(0x2500)]
NO_PENS = [-1, 16, 17, 255, 2 ** 32 - 1]


def plain(rows, columns, **parts):
    """A screen with the cell ("x", 15) everywhere."""
    values = {
        "cells": [[("x", 15)] * columns for _ in range(rows)],
        "cursor": (0, 0),
        "pen": 0,
        "band": (0, rows - 1),
        "wraps": True,
        "saved": (0, 0, 0),
        "history": [],
    }
    values.update(parts)
    return tuple(values[name] for name in PARTS)


def grid(rows, columns):
    return [[("x", 15)] * columns for _ in range(rows)]


class IsScreen(ScreenCase):
    def good(self, rows, columns, **parts):
        screen = plain(rows, columns, **parts)
        before = copy.deepcopy(screen)
        with self.subTest(rows=rows, columns=columns, parts=parts):
            self.assertIs(is_screen(screen), True)
            self.assert_same(screen, before)

    def bad(self, rows, columns, **parts):
        screen = plain(rows, columns, **parts)
        before = copy.deepcopy(screen)
        with self.subTest(rows=rows, columns=columns, parts=parts):
            self.assertIs(is_screen(screen), False)
            self.assert_same(screen, before)

    def test_sizes_in_the_range(self):
        for rows, columns in SIZES:
            self.good(rows, columns)
            self.good(rows, columns, wraps=False)
            self.assertIs(is_screen(start_screen(rows, columns)), True)

    def test_sizes_out_of_the_range(self):
        for rows, columns in ((13, 1), (13, 40), (1, 41), (12, 41), (13, 41), (100, 2), (2, 100)):
            self.bad(rows, columns)

    def test_no_rows_and_no_columns(self):
        self.bad(1, 1, cells=[])
        self.bad(1, 1, cells=[], band=(0, 0))
        self.bad(1, 1, cells=[[]])
        self.bad(2, 1, cells=[[], []])

    def test_rows_of_other_lengths(self):
        for place, length in itertools.product(range(3), (0, 1, 3, 5, 40)):
            cells = grid(3, 4)
            cells[place] = [("x", 15)] * length
            self.bad(3, 4, cells=cells)

    def test_all_characters_and_pens(self):
        for char in CHARS:
            self.good(1, 2, cells=[[("x", 0), (char, 1)]])
        for pen in range(16):
            self.good(1, 2, cells=[[("x", 0), (" ", pen)]], pen=pen, saved=(0, 0, pen))

    def spoilt_rows(self, cell):
        """Three rows with one other cell, at each place."""
        for row, column in itertools.product(range(3), range(4)):
            rows = grid(3, 4)
            rows[row][column] = cell
            yield rows

    def test_cells_that_are_none(self):
        wrong = [(char, 0) for char in NO_CHARS] + [("x", pen) for pen in NO_PENS]
        for cell in wrong:
            for rows in self.spoilt_rows(cell):
                self.bad(3, 4, cells=rows)
                self.bad(3, 4, history=rows)

    def test_cursor(self):
        for row, column in itertools.product((0, 1, 2), (0, 1, 3, 4)):
            self.good(3, 4, cursor=(row, column))
            self.good(3, 4, saved=(row, column, 15))
        for row, column in ((3, 0), (-1, 0), (0, -1), (0, 5), (2, 5), (3, 4), (12, 0), (0, 40)):
            self.bad(3, 4, cursor=(row, column))
            self.bad(3, 4, saved=(row, column, 0))
        self.good(12, 40, cursor=(11, 40), saved=(11, 40, 15))
        self.bad(12, 40, cursor=(12, 40))
        self.bad(12, 40, cursor=(11, 41))
        self.good(1, 1, cursor=(0, 1), saved=(0, 1, 0))
        self.bad(1, 1, cursor=(1, 0))

    def test_pens_out_of_range(self):
        for pen in NO_PENS:
            self.bad(3, 4, pen=pen)
            self.bad(3, 4, saved=(0, 0, pen))

    def test_band(self):
        for top, bottom in itertools.product(range(-1, 5), range(-1, 5)):
            if 0 <= top <= bottom <= 2:
                self.good(3, 4, band=(top, bottom))
            else:
                self.bad(3, 4, band=(top, bottom))
        for row in range(12):
            self.good(12, 40, band=(row, row))
            self.good(12, 40, band=(row, 11))
            self.good(12, 40, band=(0, row))
        self.bad(12, 40, band=(0, 12))
        self.bad(12, 40, band=(11, 10))

    def test_history(self):
        for length in (1, 2, 12, 13, 49, 50):
            self.good(3, 4, history=grid(length, 4))
        self.good(12, 40, history=grid(50, 40))
        for length in (51, 52, 100):
            self.bad(3, 4, history=grid(length, 4))

    def test_history_rows_of_other_lengths(self):
        for place, length in itertools.product(range(3), (0, 3, 5, 40)):
            history = grid(3, 4)
            history[place] = [("x", 15)] * length
            self.bad(3, 4, history=history)
        self.bad(1, 1, history=[[]])


class StartScreen(ScreenCase):
    def test_all_sizes(self):
        for rows, columns in itertools.product(range(1, 13), range(1, 41)):
            wanted = (
                [[(" ", 0) for _ in range(columns)] for _ in range(rows)],
                (0, 0),
                0,
                (0, rows - 1),
                True,
                (0, 0, 0),
                [],
            )
            found = start_screen(rows, columns)
            self.assert_same(found, wanted)
            self.assert_own_lists(found, start_screen(rows, columns))

    def refused(self, rows, columns, at):
        with self.subTest(rows=rows, columns=columns):
            with self.assertRaises(OutOfRange) as caught:
                start_screen(rows, columns)
            self.assertEqual(caught.exception.at, at)

    def test_rows_out_of_range(self):
        for rows in (0, 13, -1, -12, 14, 40, 2 ** 32 - 1, -2 ** 40):
            self.refused(rows, 1, 0)
            self.refused(rows, 40, 0)

    def test_columns_out_of_range(self):
        for columns in (0, 41, -1, -40, 42, 2 ** 32 - 1, -2 ** 40):
            self.refused(1, columns, 1)
            self.refused(12, columns, 1)

    def test_the_rows_come_first(self):
        for rows, columns in itertools.product((0, 13, -5), (0, 41, -5)):
            self.refused(rows, columns, 0)

    def test_changing_the_result_changes_nothing_else(self):
        first = start_screen(2, 3)
        first[0][0][0] = ("x", 1)
        first[0].pop()
        first[6].append([("y", 2)] * 3)
        self.assert_same(start_screen(2, 3), ([[(" ", 0)] * 3] * 2, (0, 0), 0, (0, 1), True, (0, 0, 0), []))

    def test_changing_a_row_changes_no_other_row(self):
        cells = start_screen(3, 2)[0]
        cells[1][0] = ("x", 1)
        self.assertEqual(cells, [[(" ", 0), (" ", 0)], [("x", 1), (" ", 0)], [(" ", 0), (" ", 0)]])


class Look(ScreenCase):
    def test_parts(self):
        screen = made(cursor=(2, 5), band=(1, 2), wraps=False, history=("uvwxy",))
        self.assert_same(look(screen), (screen[0], (2, 5), 5))
        self.assert_same(look(start_screen(1, 2)), ([[(" ", 0), (" ", 0)]], (0, 0), 0))

    def test_other_parts_play_no_role(self):
        first = made(cursor=(1, 2))
        second = changed(first, band=(1, 2), wraps=False, saved=(0, 5, 9), history=("uvwxy",))
        self.assert_same(look(first), look(second))

    def test_looks_differ_by_each_of_their_parts(self):
        screen = made(cursor=(1, 2))
        others = (
            changed(screen, cursor=(1, 3)),
            changed(screen, pen=6),
            changed(screen, cells=("abcde", "fghij", "klmno", "pqrsx")),
        )
        for other in others:
            self.assertNotEqual(look(other), look(screen))

    def test_it_is_a_copy(self):
        screen = made(cursor=(1, 2))
        before = copy.deepcopy(screen)
        found = look(screen)
        self.assert_own_lists(found, screen, look(screen))
        found[0][0][0] = ("X", 9)
        found[0].pop()
        self.assert_same(screen, before)
        self.assert_same(look(screen), before[:3])


class ShownText(ScreenCase):
    def test_rows_and_newlines(self):
        screen = made(cursor=(3, 5), history=("uvwxy",))
        before = copy.deepcopy(screen)
        self.assertEqual(shown_text(screen), "abcde\nfghij\nklmno\npqrst\n")
        self.assert_same(screen, before)

    def test_blanks_stay_and_pens_do_not_show(self):
        screen = made(texts=("  a ", "....", "b..c"))
        self.assertEqual(shown_text(screen), "  a \n    \nb  c\n")

    def test_sizes(self):
        for rows, columns in SIZES:
            self.assertEqual(shown_text(start_screen(rows, columns)), (" " * columns + "\n") * rows)

    def test_every_character_as_it_is(self):
        text = "".join(CHARS)
        pieces = [text[k:k + 40].ljust(40) for k in range(0, len(text), 40)]
        self.assertEqual(shown_text(made(texts=pieces)).split("\n"), [p.replace(".", " ") for p in pieces] + [""])
        self.assertEqual(shown_text(([[(".", 0), ("~", 15)]], (0, 0), 0, (0, 0), True, (0, 0, 0), [])), ".~\n")


if __name__ == "__main__":
    unittest.main()
