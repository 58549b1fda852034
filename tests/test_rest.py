"""Points 103 and 108: the rest of the deeds."""

import unittest

from samescreen.errors import NotADeed
from samescreen.screens.deeds import carry_out
from samescreen.screens.screen import start_screen
from tests.making import ScreenCase, changed, made

CURSORS = ((0, 0), (1, 2), (3, 4), (0, 5), (3, 5))


def back_on_the_screen(cursor):
    return (cursor[0], min(cursor[1], 4))


class Pen(ScreenCase):
    def test_every_pen(self):
        for cursor in CURSORS:
            for pen in range(16):
                self.gives(made(cursor=cursor), ("pen", pen), pen=pen)


class Band(ScreenCase):
    def test_bands_of_a_screen_with_four_rows(self):
        for cursor in CURSORS:
            for top, bottom, band in (
                (0, 1, (0, 1)), (0, 3, (0, 3)), (1, 2, (1, 2)), (2, 3, (2, 3)), (0, None, (0, 3)),
                (2, None, (2, 3)), (0, 4, (0, 3)), (2, 4, (2, 3)), (1, 9998, (1, 3)), (0, 9998, (0, 3)),
            ):
                for before in ((0, 3), (1, 2), (3, 3)):
                    screen = made(cursor=cursor, band=before)
                    self.gives(screen, ("band", top, bottom), band=band, cursor=(0, 0))

    def test_bands_that_are_none(self):
        for cursor in CURSORS:
            for top, bottom in (
                (0, 0), (1, 1), (1, 0), (3, 3), (3, 0), (3, None), (3, 4), (3, 9998), (4, 4), (4, 5),
                (4, None), (9998, None), (9997, 9998), (9998, 0), (9998, 9998),
            ):
                for before in ((0, 3), (1, 2)):
                    screen = made(cursor=cursor, band=before)
                    self.gives(screen, ("band", top, bottom), cursor=back_on_the_screen(cursor))

    def test_one_row_has_no_other_band(self):
        for bottom in (None, 0, 1, 9998):
            screen = made(texts=("abcde",), cursor=(0, 3))
            self.gives(screen, ("band", 0, bottom))


class Wrap(ScreenCase):
    def test_both_flags(self):
        for cursor in CURSORS:
            for before in (True, False):
                for flag in (True, False):
                    screen = made(cursor=cursor, wraps=before)
                    self.gives(screen, ("wrap", flag), wraps=flag, cursor=back_on_the_screen(cursor))


class SaveAndRestore(ScreenCase):
    def test_save(self):
        for row, column in CURSORS:
            self.gives(made(cursor=(row, column)), ("save",), saved=(row, column, 5))

    def test_restore(self):
        for cursor in CURSORS:
            for row, column, pen in ((0, 0, 0), (1, 2, 3), (3, 4, 15), (2, 5, 7), (3, 5, 5)):
                screen = made(cursor=cursor, saved=(row, column, pen), band=(1, 2), wraps=False)
                self.gives(screen, ("restore",), cursor=(row, column), pen=pen)

    def test_restore_what_was_saved(self):
        before = made(cursor=(2, 5))
        moved = carry_out(carry_out(carry_out(before, ("save",)), ("go", 0, 0)), ("pen", 9))
        self.gives(moved, ("restore",), cursor=(2, 5), pen=5)


class Reset(ScreenCase):
    def test_only_the_size_and_the_history_stay(self):
        for cursor in CURSORS:
            for history in ((), ("vwxyz",), ("uvwxy",) * 50):
                screen = made(cursor=cursor, band=(1, 2), wraps=False, history=history)
                start = start_screen(4, 5)
                after = self.result_of(screen, ("reset",))
                self.assert_same(after, start[:6] + (screen[6],))

    def test_other_sizes(self):
        for texts in (("a",), ("ab",), ("a", "b", "c"), ("abcdefgh" * 5,) * 12):
            after = self.result_of(made(texts=texts, cursor=(0, 1)), ("reset",))
            self.assert_same(after, start_screen(len(texts), len(texts[0])))

    def test_a_screen_beyond_the_limits_raises_no_error(self):
        after = carry_out(made(texts=("abcdefghi" * 5,) * 13, cursor=(12, 45)), ("reset",))
        self.assert_same(after, ([[(" ", 0)] * 45] * 13, (0, 0), 0, (0, 12), True, (0, 0, 0), []))


class NoDeeds(ScreenCase):
    def test_they_are_refused_and_change_nothing(self):
        screen = made(cursor=(3, 5), history=("vwxyz",))
        before = changed(screen)
        for deed in (
            ("",), ("turn",), ("write",), ("write", "%"), ("write", ""), ("write", "ab"), ("write", 7),
            ("write", None), ("line", 1), ("up",), ("up", 0), ("up", 10000), ("up", True), ("up", "1"),
            ("up", None), ("up", -1), ("go", 1), ("go", -1, 0), ("go", 9999, 0), ("go", 0, 9999),
            ("go", None, 0), ("go", 0, None), ("go", 0, 0, 0), ("clear", 3), ("clear_row", -1),
            ("clear", False), ("insert", 0), ("delete_rows", 10000), ("pen", 16), ("pen", -1), ("pen", True),
            ("band", 0), ("band", None, 1), ("band", 0, 9999), ("band", 9999, None), ("band", False, True),
            ("wrap",), ("wrap", 1), ("wrap", 0), ("wrap", None), ("wrap", "True"), ("save", 0), ("reset", None),
        ):
            with self.subTest(deed=deed):
                with self.assertRaises(NotADeed) as caught:
                    carry_out(screen, deed)
                self.assertEqual(caught.exception.at, 0)
                self.assert_same(screen, before)


if __name__ == "__main__":
    unittest.main()
