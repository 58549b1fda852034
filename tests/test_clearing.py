"""Points 103 and 107: clearing and shifting."""

import unittest

from tests.making import GRID, ScreenCase, made


class ClearRow(ScreenCase):
    def cleared(self, cursor, part, text, after=None):
        row = cursor[0]
        texts = GRID[:row] + (text,) + GRID[row + 1:]
        self.gives(made(cursor=cursor), ("clear_row", part), cells=texts, cursor=after or cursor)

    def test_to_the_end(self):
        for column, dots in ((0, 5), (1, 4), (3, 2), (4, 1)):
            for row in range(4):
                self.cleared((row, column), 0, GRID[row][:column] + "." * dots)

    def test_from_the_start(self):
        for column, dots in ((0, 1), (1, 2), (3, 4), (4, 5)):
            for row in range(4):
                self.cleared((row, column), 1, "." * dots + GRID[row][column + 1:])

    def test_all(self):
        for column in range(5):
            for row in range(4):
                self.cleared((row, column), 2, ".....")

    def test_behind(self):
        self.cleared((1, 5), 0, "fghi.", after=(1, 4))
        self.cleared((1, 5), 1, ".....", after=(1, 4))
        self.cleared((1, 5), 2, ".....", after=(1, 4))

    def test_one_cell(self):
        for part in (0, 1, 2):
            for column in (0, 1):
                self.gives(made(texts=("a",), cursor=(0, column)), ("clear_row", part), cells=(".",), cursor=(0, 0))


class Clear(ScreenCase):
    def cleared(self, cursor, part, texts, after=None):
        for band in ((0, 3), (1, 2)):
            screen = made(cursor=cursor, band=band)
            self.gives(screen, ("clear", part), cells=texts, cursor=after or cursor)

    def test_to_the_end(self):
        for column, dots in ((0, 5), (2, 3), (4, 1)):
            for row in range(4):
                texts = GRID[:row] + (GRID[row][:column] + "." * dots,) + (".....",) * (3 - row)
                self.cleared((row, column), 0, texts)

    def test_from_the_start(self):
        for column, dots in ((0, 1), (2, 3), (4, 5)):
            for row in range(4):
                texts = (".....",) * row + ("." * dots + GRID[row][column + 1:],) + GRID[row + 1:]
                self.cleared((row, column), 1, texts)

    def test_all(self):
        for column in range(5):
            for row in range(4):
                self.cleared((row, column), 2, (".....",) * 4)

    def test_behind(self):
        self.cleared((1, 5), 0, ("abcde", "fghi.", ".....", "....."), after=(1, 4))
        self.cleared((1, 5), 1, (".....", ".....", "klmno", "pqrst"), after=(1, 4))
        self.cleared((1, 5), 2, (".....",) * 4, after=(1, 4))

    def test_the_history_stays(self):
        screen = made(cursor=(0, 0), history=("vwxyz",))
        self.gives(screen, ("clear", 2), cells=(".....",) * 4)


class InsertAndDelete(ScreenCase):
    def shifted(self, deed, cursor, text, after=None):
        texts = GRID[:1] + (text,) + GRID[2:]
        for band in ((0, 3), (2, 3)):
            self.gives(made(cursor=cursor, band=band), deed, cells=texts, cursor=after or cursor)

    def test_insert(self):
        for column, n, text in (
            (0, 1, ".fghi"), (0, 4, "....f"), (0, 5, "....."), (2, 1, "fg.hi"), (2, 2, "fg..h"),
            (2, 3, "fg..."), (2, 4, "fg..."), (2, 9999, "fg..."), (4, 1, "fghi."), (4, 9999, "fghi."),
        ):
            self.shifted(("insert", n), (1, column), text)

    def test_delete(self):
        for column, n, text in (
            (0, 1, "ghij."), (0, 4, "j...."), (0, 5, "....."), (2, 1, "fgij."), (2, 2, "fgj.."),
            (2, 3, "fg..."), (2, 4, "fg..."), (2, 9999, "fg..."), (4, 1, "fghi."), (4, 9999, "fghi."),
        ):
            self.shifted(("delete", n), (1, column), text)

    def test_behind(self):
        for word in ("insert", "delete"):
            for n in (1, 2, 9999):
                self.shifted((word, n), (1, 5), "fghi.", after=(1, 4))

    def test_one_cell(self):
        for word in ("insert", "delete"):
            self.gives(made(texts=("a",), cursor=(0, 1)), (word, 1), cells=(".",), cursor=(0, 0))


class InsertAndDeleteRows(ScreenCase):
    def scrolled(self, deed, cursor, band, texts):
        for history in ((), ("vwxyz",)):
            screen = made(cursor=cursor, band=band, history=history)
            self.gives(screen, deed, cells=texts, cursor=(cursor[0], 0))

    def test_insert_rows(self):
        a, f, k, p = GRID
        b = "....."
        for row, band, n, texts in (
            (0, (0, 3), 1, (b, a, f, k)), (0, (0, 3), 3, (b, b, b, a)), (0, (0, 3), 4, (b, b, b, b)),
            (1, (0, 3), 1, (a, b, f, k)), (1, (0, 3), 2, (a, b, b, f)), (3, (0, 3), 1, (a, f, k, b)),
            (1, (1, 2), 1, (a, b, f, p)), (1, (1, 2), 2, (a, b, b, p)), (1, (1, 2), 9999, (a, b, b, p)),
            (2, (1, 2), 1, (a, f, b, p)), (2, (1, 2), 3, (a, f, b, p)), (2, (2, 2), 5, (a, f, b, p)),
            (0, (0, 1), 1, (b, a, k, p)), (0, (0, 3), 9999, (b, b, b, b)),
        ):
            for column in (0, 3, 4, 5):
                self.scrolled(("insert_rows", n), (row, column), band, texts)

    def test_delete_rows(self):
        a, f, k, p = GRID
        b = "....."
        for row, band, n, texts in (
            (0, (0, 3), 1, (f, k, p, b)), (0, (0, 3), 3, (p, b, b, b)), (0, (0, 3), 4, (b, b, b, b)),
            (1, (0, 3), 1, (a, k, p, b)), (1, (0, 3), 2, (a, p, b, b)), (3, (0, 3), 1, (a, f, k, b)),
            (1, (1, 2), 1, (a, k, b, p)), (1, (1, 2), 2, (a, b, b, p)), (1, (1, 2), 9999, (a, b, b, p)),
            (2, (1, 2), 1, (a, f, b, p)), (2, (1, 2), 3, (a, f, b, p)), (2, (2, 2), 5, (a, f, b, p)),
            (0, (0, 1), 1, (f, b, k, p)), (0, (0, 3), 9999, (b, b, b, b)),
        ):
            for column in (0, 3, 4, 5):
                self.scrolled(("delete_rows", n), (row, column), band, texts)

    def test_outside_of_the_band_nothing_else_happens(self):
        for word in ("insert_rows", "delete_rows"):
            for row, band in ((0, (1, 2)), (3, (1, 2)), (3, (0, 2)), (0, (3, 3)), (2, (0, 1))):
                for column, after in ((0, 0), (3, 3), (4, 4), (5, 4)):
                    screen = made(cursor=(row, column), band=band, history=("vwxyz",))
                    self.gives(screen, (word, 1), cursor=(row, after))
                    self.gives(screen, (word, 9999), cursor=(row, after))


if __name__ == "__main__":
    unittest.main()
