import itertools
import unittest

from samescreen.screens.deeds import is_deed
from tests.making import ScreenCase

WORDS = {
    "write": ("char",),
    "return": (),
    "line": (),
    "rise": (),
    "back": (),
    "tab": (),
    "up": ("n",),
    "down": ("n",),
    "left": ("n",),
    "right": ("n",),
    "go": ("place", "place"),
    "clear_row": ("part",),
    "clear": ("part",),
    "insert": ("n",),
    "delete": ("n",),
    "insert_rows": ("n",),
    "delete_rows": ("n",),
    "pen": ("pen",),
    "band": ("place", "bottom"),
    "wrap": ("flag",),
    "save": (),
    "restore": (),
    "reset": (),
}

NUMBERS = (-2 ** 40, -9999, -1, 0, 1, 2, 3, 8, 14, 15, 16, 17, 32, 37, 126)
NUMBERS = NUMBERS + (9997, 9998, 9999, 10000, 10001, 65536, 2 ** 32 - 1, 2 ** 70)
TEXTS = ("", " ", "a", "~", "%", "0", "1", "9", "aa", "ab", "  ", "12", "True", "None")
TEXTS = TEXTS + ("\n", "\t", "\x00", "\x1b", "\x1f", "\x7f", "\x80", "\xe9", "\u2500", "write", "go")
VALUES = NUMBERS + TEXTS + (True, False, None)

GOOD = {
    "char": (" ", "a", "~", "0", "1", "9"),
    "n": (1, 2, 3, 8, 14, 15, 16, 17, 32, 37, 126, 9997, 9998, 9999),
    "part": (0, 1, 2),
    "place": (0, 1, 2, 3, 8, 14, 15, 16, 17, 32, 37, 126, 9997, 9998),
    "bottom": (0, 1, 2, 3, 8, 14, 15, 16, 17, 32, 37, 126, 9997, 9998, None),
    "pen": (0, 1, 2, 3, 8, 14, 15),
    "flag": (True, False),
}


def is_good(value, kind):
    return any(type(value) is type(good) and value == good for good in GOOD[kind])


class IsDeed(ScreenCase):
    def test_words_without_numbers(self):
        for word, kinds in WORDS.items():
            self.assertIs(is_deed((word,)), kinds == (), word)

    def test_one_value(self):
        for word, kinds in WORDS.items():
            for value in VALUES:
                wanted = len(kinds) == 1 and is_good(value, kinds[0])
                self.assertIs(is_deed((word, value)), wanted, (word, value))

    def test_two_values(self):
        for word, kinds in WORDS.items():
            for first, second in itertools.product(VALUES, VALUES):
                wanted = len(kinds) == 2 and is_good(first, kinds[0]) and is_good(second, kinds[1])
                self.assertIs(is_deed((word, first, second)), wanted, (word, first, second))

    def test_further_values(self):
        for word in WORDS:
            for count in (3, 4, 10):
                for value in (0, 1, 2, "a", None, True):
                    self.assertIs(is_deed((word,) + (value,) * count), False, (word, value))

    def test_every_character(self):
        for code in list(range(400)) + [0x2500, 0xff10, 0x1f600]:
            wanted = 32 <= code <= 126 and code != 37
            self.assertIs(is_deed(("write", chr(code))), wanted, code)

    def test_every_pen_and_part(self):
        for number in range(-3, 40):
            self.assertIs(is_deed(("pen", number)), 0 <= number <= 15, number)
            self.assertIs(is_deed(("clear", number)), 0 <= number <= 2, number)
            self.assertIs(is_deed(("clear_row", number)), 0 <= number <= 2, number)

    def test_unknown_words(self):
        words = ("", " ", "Write", "WRITE", "write ", " up", "writes", "char", "n", "part", "place", "flag")
        words = words + ("bottom", "none", "leave", "end", "scroll", "home", "erase", "count", "clear-row")
        for word in words:
            for values in ((), ("a",), (0,), (1,), (True,), (0, 0), (1, None)):
                self.assertIs(is_deed((word,) + values), False, (word, values))

    def test_a_band_may_be_upside_down(self):
        for top, bottom in ((0, 0), (5, 2), (9998, 0), (9998, None), (9998, 9998)):
            self.assertIs(is_deed(("band", top, bottom)), True)


if __name__ == "__main__":
    unittest.main()
