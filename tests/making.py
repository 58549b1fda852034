"""Screens for tests, and what every result of a deed must keep to."""

import copy
import unittest

from samescreen.errors import OutOfRange
from samescreen.screens.deeds import carry_out
from samescreen.screens.screen import is_screen

GRID = ("abcde", "fghij", "klmno", "pqrst")
PARTS = ("cells", "cursor", "pen", "band", "wraps", "saved", "history")
PEN = 5


def rows_of(texts):
    """A dot stands for a blank cell with the pen PEN; other cells have the pen 1."""
    return [[(" ", PEN) if char == "." else (char, 1) for char in text] for text in texts]


def made(texts=GRID, cursor=(0, 0), band=None, wraps=True, saved=(0, 1, 3), history=()):
    if band is None:
        band = (0, len(texts) - 1)
    return (rows_of(texts), cursor, PEN, band, wraps, saved, rows_of(history))


def changed(screen, **parts):
    """A copy of a screen with other parts; cells and history are given as texts."""
    values = dict(zip(PARTS, copy.deepcopy(screen)))
    for name, value in parts.items():
        values[name] = rows_of(value) if name in ("cells", "history") else value
    return tuple(values[name] for name in PARTS)


def codes(text):
    """The bytes of a text."""
    return [ord(char) for char in text]


def lists_in(value):
    """All lists in a value, itself included."""
    found = [value] if isinstance(value, list) else []
    if isinstance(value, (list, tuple)):
        for part in value:
            found.extend(lists_in(part))
    return found


def same(first, second):
    """Equal, and of the same kinds all through: True is not 1, a list is no tuple."""
    if type(first) is not type(second):
        return False
    if isinstance(first, (list, tuple)):
        return len(first) == len(second) and all(same(a, b) for a, b in zip(first, second))
    return first == second


class ScreenCase(unittest.TestCase):
    def assert_same(self, found, wanted):
        if not same(found, wanted):
            self.assertEqual(found, wanted)
            self.fail("equal, but of other kinds: " + repr(found))

    def assert_own_lists(self, result, *others):
        """No list occurs twice in the result, and none is shared with the others."""
        ids = [id(part) for part in lists_in(result)]
        self.assertEqual(len(ids), len(set(ids)), "a list occurs twice")
        foreign = [id(part) for other in others for part in lists_in(other)]
        self.assertFalse(set(ids) & set(foreign), "a list is shared")

    def assert_sizes_refused(self, make):
        """What is made with rows and columns is not made with numbers out of range."""
        for rows in (-2 ** 40, -1, 0, 1, 12, 13, 2 ** 32):
            for columns in (-2 ** 40, -1, 0, 1, 40, 41, 2 ** 32):
                wanted = [0] * (not 1 <= rows <= 12) + [1] * (not 1 <= columns <= 40)
                with self.subTest(rows=rows, columns=columns):
                    if not wanted:
                        make(rows, columns)
                        continue
                    with self.assertRaises(OutOfRange) as caught:
                        make(rows, columns)
                    self.assertEqual(caught.exception.at, wanted[0])

    def result_of(self, screen, deed):
        """The screen after the deed, tested for what holds after every deed."""
        before = copy.deepcopy(screen)
        after = carry_out(screen, deed)
        self.assert_same(screen, before)
        self.assertTrue(is_screen(after))
        again = carry_out(screen, deed)
        self.assert_same(again, after)
        self.assert_own_lists(after, screen, again)
        return after

    def gives(self, screen, deed, **parts):
        """The deed changes these parts of the screen and nothing else."""
        with self.subTest(deed=deed, cursor=screen[1], band=screen[3], wraps=screen[4]):
            self.assert_same(self.result_of(screen, deed), changed(screen, **parts))
