"""Points 103 to 105: scrolling, writing and lines."""

import unittest

from tests.making import GRID, PEN, ScreenCase, changed, made, rows_of

FULL = tuple("abcde"[k % 5] * 4 + chr(48 + k) for k in range(50))


class Write(ScreenCase):
    def written(self, screen, row, column, char="X"):
        """The rows of the screen with a character in the present pen."""
        rows = [list(line) for line in screen[0]]
        rows[row][column] = (char, PEN)
        return rows

    def gives_rows(self, screen, deed, rows, **parts):
        wanted = changed(screen, **parts)
        with self.subTest(deed=deed, cursor=screen[1], band=screen[3], wraps=screen[4]):
            self.assert_same(self.result_of(screen, deed), (rows,) + wanted[1:])

    def test_every_place(self):
        for wraps in (True, False):
            for row in range(4):
                for column in range(5):
                    screen = made(cursor=(row, column), wraps=wraps)
                    rows = self.written(screen, row, column)
                    self.gives_rows(screen, ("write", "X"), rows, cursor=(row, column + 1))

    def test_characters(self):
        screen = made(cursor=(1, 1))
        for char in (" ", "!", "$", "&", "~", "0", "\\", '"'):
            self.gives_rows(screen, ("write", char), self.written(screen, 1, 1, char), cursor=(1, 2))

    def test_behind_with_wraps_goes_on_in_the_next_row(self):
        for row in (0, 1, 2):
            screen = made(cursor=(row, 5))
            self.gives_rows(screen, ("write", "X"), self.written(screen, row + 1, 0), cursor=(row + 1, 1))

    def test_behind_without_wraps_writes_over_the_last_column(self):
        for band in ((0, 3), (1, 2)):
            for row in range(4):
                screen = made(cursor=(row, 5), wraps=False, band=band)
                self.gives_rows(screen, ("write", "X"), self.written(screen, row, 4), cursor=(row, 5))

    def test_behind_at_the_bottom_scrolls_the_whole_screen(self):
        screen = made(cursor=(3, 5), history=("vwxyz",))
        rows = rows_of(GRID[1:]) + [[("X", PEN)] + [(" ", PEN)] * 4]
        self.gives_rows(screen, ("write", "X"), rows, cursor=(3, 1), history=("vwxyz", "abcde"))

    def test_behind_at_the_bottom_of_a_lower_band_keeps_no_history(self):
        screen = made(cursor=(2, 5), band=(1, 2))
        rows = rows_of((GRID[0], GRID[2])) + [[("X", PEN)] + [(" ", PEN)] * 4] + rows_of(GRID[3:])
        self.gives_rows(screen, ("write", "X"), rows, cursor=(2, 1))

    def test_behind_at_the_bottom_of_an_upper_band(self):
        screen = made(cursor=(1, 5), band=(0, 1))
        rows = rows_of(GRID[1:2]) + [[("X", PEN)] + [(" ", PEN)] * 4] + rows_of(GRID[2:])
        self.gives_rows(screen, ("write", "X"), rows, cursor=(1, 1), history=("abcde",))

    def test_behind_in_the_last_row_below_the_band_stays_there(self):
        screen = made(cursor=(3, 5), band=(0, 2))
        self.gives_rows(screen, ("write", "X"), self.written(screen, 3, 0), cursor=(3, 1))

    def test_behind_above_the_band_goes_into_it(self):
        screen = made(cursor=(0, 5), band=(1, 2))
        self.gives_rows(screen, ("write", "X"), self.written(screen, 1, 0), cursor=(1, 1))

    def test_one_column(self):
        screen = made(texts=("a", "b"), cursor=(0, 1))
        self.gives_rows(screen, ("write", "X"), self.written(screen, 1, 0), cursor=(1, 1))
        screen = made(texts=("a", "b"), cursor=(0, 1), wraps=False)
        self.gives_rows(screen, ("write", "X"), self.written(screen, 0, 0), cursor=(0, 1))
        screen = made(texts=("a",), cursor=(0, 1))
        self.gives_rows(screen, ("write", "X"), [[("X", PEN)]], cursor=(0, 1), history=("a",))

    def test_the_history_is_full(self):
        screen = made(cursor=(3, 5), history=FULL)
        rows = rows_of(GRID[1:]) + [[("X", PEN)] + [(" ", PEN)] * 4]
        self.gives_rows(screen, ("write", "X"), rows, cursor=(3, 1), history=FULL[1:] + ("abcde",))


class Return(ScreenCase):
    def test_every_place(self):
        for row in range(4):
            for column in range(6):
                for wraps in (True, False):
                    screen = made(cursor=(row, column), band=(1, 2), wraps=wraps)
                    self.gives(screen, ("return",), cursor=(row, 0))


class Line(ScreenCase):
    def test_goes_down_and_keeps_the_column(self):
        for wraps in (True, False):
            for row in (0, 1, 2):
                for column in range(5):
                    screen = made(cursor=(row, column), wraps=wraps)
                    self.gives(screen, ("line",), cursor=(row + 1, column))

    def test_behind_goes_to_the_last_column(self):
        self.gives(made(cursor=(0, 5)), ("line",), cursor=(1, 4))
        self.gives(made(cursor=(3, 5), band=(0, 2)), ("line",), cursor=(3, 4))

    def test_scrolls_the_whole_screen(self):
        for column, after in ((0, 0), (2, 2), (4, 4), (5, 4)):
            screen = made(cursor=(3, column), history=("vwxyz",))
            texts = GRID[1:] + (".....",)
            self.gives(screen, ("line",), cells=texts, cursor=(3, after), history=("vwxyz", "abcde"))

    def test_scrolls_an_upper_band_into_the_history(self):
        screen = made(cursor=(1, 2), band=(0, 1))
        self.gives(screen, ("line",), cells=("fghij", ".....", "klmno", "pqrst"), history=("abcde",))

    def test_scrolls_a_lower_band_without_history(self):
        screen = made(cursor=(2, 2), band=(1, 2), history=("vwxyz",))
        self.gives(screen, ("line",), cells=("abcde", "klmno", ".....", "pqrst"))
        screen = made(cursor=(3, 0), band=(1, 3))
        self.gives(screen, ("line",), cells=("abcde", "klmno", "pqrst", "....."))

    def test_a_band_of_one_row(self):
        self.gives(made(cursor=(2, 1), band=(2, 2)), ("line",), cells=("abcde", "fghij", ".....", "pqrst"))
        screen = made(cursor=(0, 1), band=(0, 0))
        self.gives(screen, ("line",), cells=(".....", "fghij", "klmno", "pqrst"), history=("abcde",))

    def test_below_the_band_it_stays_in_the_last_row(self):
        self.gives(made(cursor=(3, 2), band=(0, 2)), ("line",))
        self.gives(made(cursor=(3, 2), band=(0, 1)), ("line",))
        self.gives(made(cursor=(2, 2), band=(0, 1)), ("line",), cursor=(3, 2))

    def test_above_the_band_it_goes_down(self):
        self.gives(made(cursor=(0, 2), band=(2, 3)), ("line",), cursor=(1, 2))
        self.gives(made(cursor=(1, 2), band=(2, 3)), ("line",), cursor=(2, 2))

    def test_one_cell(self):
        self.gives(made(texts=("a",)), ("line",), cells=(".",), history=("a",))
        self.gives(made(texts=("a",), cursor=(0, 1)), ("line",), cells=(".",), cursor=(0, 0), history=("a",))

    def test_the_history_keeps_50_rows(self):
        texts = GRID[1:] + (".....",)
        for length in (0, 1, 48, 49):
            history = FULL[:length]
            screen = made(cursor=(3, 0), history=history)
            self.gives(screen, ("line",), cells=texts, history=history + ("abcde",))
        screen = made(cursor=(3, 0), history=FULL)
        self.gives(screen, ("line",), cells=texts, history=FULL[1:] + ("abcde",))

    def test_a_full_history_stays_without_scrolling_into_it(self):
        screen = made(cursor=(3, 0), band=(1, 3), history=FULL)
        self.gives(screen, ("line",), cells=("abcde", "klmno", "pqrst", "....."))
        self.gives(made(cursor=(2, 0), history=FULL), ("line",), cursor=(3, 0))


class Rise(ScreenCase):
    def test_goes_up_and_keeps_the_column(self):
        for wraps in (True, False):
            for row in (1, 2, 3):
                for column in range(5):
                    screen = made(cursor=(row, column), wraps=wraps)
                    self.gives(screen, ("rise",), cursor=(row - 1, column))

    def test_behind_goes_to_the_last_column(self):
        self.gives(made(cursor=(2, 5)), ("rise",), cursor=(1, 4))
        self.gives(made(cursor=(0, 5), band=(1, 3)), ("rise",), cursor=(0, 4))

    def test_scrolls_down_at_the_top_of_the_band(self):
        for column, after in ((0, 0), (2, 2), (4, 4), (5, 4)):
            screen = made(cursor=(0, column), history=("vwxyz",))
            self.gives(screen, ("rise",), cells=(".....",) + GRID[:3], cursor=(0, after))
        screen = made(cursor=(1, 2), band=(1, 2), history=("vwxyz",))
        self.gives(screen, ("rise",), cells=("abcde", ".....", "fghij", "pqrst"))
        self.gives(made(cursor=(0, 2), band=(0, 1)), ("rise",), cells=(".....", "abcde", "klmno", "pqrst"))

    def test_a_band_of_one_row(self):
        self.gives(made(cursor=(3, 1), band=(3, 3)), ("rise",), cells=("abcde", "fghij", "klmno", "....."))

    def test_above_the_band_it_stays_in_the_first_row(self):
        self.gives(made(cursor=(0, 2), band=(1, 3)), ("rise",))
        self.gives(made(cursor=(0, 2), band=(2, 3)), ("rise",))
        self.gives(made(cursor=(1, 2), band=(2, 3)), ("rise",), cursor=(0, 2))

    def test_below_the_band_it_goes_up(self):
        self.gives(made(cursor=(3, 2), band=(0, 2)), ("rise",), cursor=(2, 2))
        self.gives(made(cursor=(3, 2), band=(0, 1)), ("rise",), cursor=(2, 2))

    def test_one_cell(self):
        self.gives(made(texts=("a",), history=("z",)), ("rise",), cells=(".",))


if __name__ == "__main__":
    unittest.main()
