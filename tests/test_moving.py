"""Points 103 and 106: moving."""

import unittest

from tests.making import ScreenCase, made

WIDE = ("abcdefghijklmnopqrstuvwxyzabcdefghijklmn", "nmlkjihgfedcbazyxwvutsrqponmlkjihgfedcba")


class Back(ScreenCase):
    def test_every_column(self):
        for row in range(4):
            for column, after in ((0, 0), (1, 0), (2, 1), (3, 2), (4, 3), (5, 3)):
                self.gives(made(cursor=(row, column)), ("back",), cursor=(row, after))

    def test_one_column(self):
        for column in (0, 1):
            self.gives(made(texts=("a", "b"), cursor=(1, column)), ("back",), cursor=(1, 0))


class Tab(ScreenCase):
    def test_every_column_of_a_wide_screen(self):
        for column in range(41):
            after = min(39, (column // 8 + 1) * 8) if column < 40 else 39
            self.gives(made(texts=WIDE, cursor=(1, column)), ("tab",), cursor=(1, after))

    def test_the_last_column_if_there_is_none(self):
        for columns, column, after in (
            (1, 0, 0), (1, 1, 0), (7, 0, 6), (8, 0, 7), (8, 7, 7), (8, 8, 7), (9, 0, 8), (9, 7, 8),
            (9, 8, 8), (9, 9, 8), (16, 8, 15), (17, 8, 16), (17, 16, 16), (17, 17, 16), (18, 16, 17),
        ):
            screen = made(texts=(WIDE[0][:columns],), cursor=(0, column))
            self.gives(screen, ("tab",), cursor=(0, after))


class Directions(ScreenCase):
    def test_up_and_down(self):
        for column, after in ((0, 0), (2, 2), (4, 4), (5, 4)):
            for row in range(4):
                for n in (1, 2, 3, 4, 12, 9999):
                    screen = made(cursor=(row, column))
                    self.gives(screen, ("up", n), cursor=(max(0, row - n), after))
                    self.gives(screen, ("down", n), cursor=(min(3, row + n), after))

    def test_left_and_right(self):
        for row in (0, 3):
            for column in range(6):
                for n in (1, 2, 3, 4, 5, 6, 40, 9999):
                    screen = made(cursor=(row, column))
                    start = min(column, 4)
                    self.gives(screen, ("left", n), cursor=(row, max(0, start - n)))
                    self.gives(screen, ("right", n), cursor=(row, min(4, start + n)))

    def test_the_band_is_no_border(self):
        screen = made(cursor=(1, 2), band=(1, 2))
        self.gives(screen, ("up", 1), cursor=(0, 2))
        self.gives(screen, ("down", 2), cursor=(3, 2))
        self.gives(made(cursor=(0, 2), band=(1, 2)), ("down", 3), cursor=(3, 2))
        self.gives(made(cursor=(3, 2), band=(1, 2)), ("up", 3), cursor=(0, 2))

    def test_one_cell(self):
        for column in (0, 1):
            for word in ("up", "down", "left", "right"):
                self.gives(made(texts=("a",), cursor=(0, column)), (word, 1), cursor=(0, 0))
                self.gives(made(texts=("a",), cursor=(0, column)), (word, 9999), cursor=(0, 0))


class Go(ScreenCase):
    def test_every_place(self):
        for cursor in ((0, 0), (2, 3), (3, 5)):
            for row in range(4):
                for column in range(5):
                    self.gives(made(cursor=cursor, band=(1, 2)), ("go", row, column), cursor=(row, column))

    def test_places_outside(self):
        for row, column, after in (
            (4, 0, (3, 0)), (0, 5, (0, 4)), (4, 5, (3, 4)), (2, 6, (2, 4)), (9998, 1, (3, 1)),
            (1, 9998, (1, 4)), (9998, 9998, (3, 4)), (3, 5, (3, 4)), (5, 3, (3, 3)),
        ):
            self.gives(made(cursor=(1, 1)), ("go", row, column), cursor=after)
            self.gives(made(cursor=(1, 5)), ("go", row, column), cursor=after)


if __name__ == "__main__":
    unittest.main()
