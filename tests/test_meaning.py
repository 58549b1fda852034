"""Points 202, 203 and 205: single bytes, the byte behind 27, and the letters of long sequences."""

import itertools
import string
import unittest

from samescreen.deeds.meaning import deed_of_byte, deed_of_letter, deed_of_sign
from samescreen.screens.deeds import is_deed
from tests import reading_model
from tests.making import ScreenCase

NUMBERS = (0, 1, 2, 3, 4, 14, 15, 16, 17, 100, 9997, 9998, 9999, 10000, 10001, 99999, 2 ** 32 - 1, 2 ** 70)
COUNTED = {
    "A": "up", "B": "down", "C": "right", "D": "left",
    "I": "insert", "P": "delete", "L": "insert_rows", "N": "delete_rows",
}
KNOWN = "ABCDIPLNHKJmb"


class SingleBytes(ScreenCase):
    def test_every_byte(self):
        moves = {8: ("back",), 9: ("tab",), 10: ("line",), 13: ("return",)}
        for byte in range(256):
            wanted = moves.get(byte)
            if 32 <= byte <= 126 and byte != 37:
                wanted = ("write", chr(byte))
            self.assert_same(deed_of_byte(byte), wanted)

    def test_edges(self):
        self.assertEqual(deed_of_byte(32), ("write", " "))
        self.assertEqual(deed_of_byte(36), ("write", "$"))
        self.assertEqual(deed_of_byte(38), ("write", "&"))
        self.assertEqual(deed_of_byte(126), ("write", "~"))
        for byte in (0, 7, 11, 12, 14, 27, 31, 37, 127, 128, 160, 255):
            self.assertIsNone(deed_of_byte(byte), byte)

    def test_beyond_the_bytes(self):
        for number in (-2 ** 40, -69, -1, 256, 264, 266, 288, 321, 2 ** 32 - 1):
            self.assertIsNone(deed_of_byte(number), number)
            self.assertIsNone(deed_of_sign(number), number)


class Signs(ScreenCase):
    def test_every_byte(self):
        signs = {
            ord("s"): ("save",), ord("r"): ("restore",), ord("u"): ("rise",),
            ord("z"): ("reset",), ord("w"): ("wrap", True), ord("v"): ("wrap", False),
        }
        for byte in range(256):
            self.assert_same(deed_of_sign(byte), signs.get(byte))

    def test_what_begins_or_goes_on_with_a_sequence_is_no_deed(self):
        for byte in (27, ord("["), 37, 10, ord("S"), ord("W")):
            self.assertIsNone(deed_of_sign(byte), byte)


class Letters(ScreenCase):
    def gives(self, letter, numbers, wanted):
        before = list(numbers)
        with self.subTest(letter=letter, numbers=numbers):
            self.assert_same(deed_of_letter(letter, numbers), wanted)
            self.assert_same(numbers, before)

    def test_every_letter(self):
        for letter in string.ascii_letters:
            for count in range(4):
                for numbers in itertools.product(NUMBERS[:8], repeat=count):
                    wanted = reading_model.deed_of_numbers(letter, list(numbers))
                    self.gives(letter, list(numbers), wanted)

    def test_other_letters_make_no_deed(self):
        for letter in sorted(set(string.ascii_letters) - set(KNOWN)):
            for numbers in ([], [0], [1], [2, 3], [1, 2, 3]):
                self.gives(letter, numbers, None)

    def test_counts(self):
        for letter, word in COUNTED.items():
            self.gives(letter, [], (word, 1))
            for number in NUMBERS:
                wanted = (word, min(max(1, number), 9999))
                self.gives(letter, [number], wanted)
                self.gives(letter, [number, 7], wanted)
                self.gives(letter, [number, 0, 5], wanted)

    def test_places(self):
        self.gives("H", [], ("go", 0, 0))
        for number in NUMBERS:
            place = 0 if number == 0 else min(number, 9999) - 1
            self.gives("H", [number], ("go", place, 0))
            self.gives("H", [0, number], ("go", 0, place))
            self.gives("H", [3, number, 8], ("go", 2, place))
            self.gives("H", [number, 4, 9, 9], ("go", place, 3))

    def test_parts(self):
        for letter, word in (("K", "clear_row"), ("J", "clear")):
            self.gives(letter, [], (word, 0))
            for number in NUMBERS:
                wanted = (word, number) if number <= 2 else None
                self.gives(letter, [number], wanted)
                self.gives(letter, [number, 1], wanted)
                self.gives(letter, [number, 5, 0], wanted)

    def test_pens(self):
        self.gives("m", [], ("pen", 0))
        for number in list(range(18)) + list(NUMBERS):
            wanted = ("pen", number) if number <= 15 else None
            self.gives("m", [number], wanted)
            self.gives("m", [number, 31], wanted)
            self.gives("m", [number, 1, 1, 1], wanted)

    def test_bands(self):
        self.gives("b", [], ("band", 0, None))
        for number in NUMBERS:
            place = 0 if number == 0 else min(number, 9999) - 1
            self.gives("b", [number], ("band", place, None))
            self.gives("b", [number, 0], ("band", place, None))
            self.gives("b", [0, number], ("band", 0, None if number == 0 else place))
            self.gives("b", [5, number, 6], ("band", 4, None if number == 0 else place))

    def test_whatever_is_returned_is_a_deed(self):
        for letter in KNOWN:
            for numbers in itertools.product(NUMBERS, repeat=2):
                deed = deed_of_letter(letter, list(numbers))
                if deed is not None:
                    self.assertIs(is_deed(deed), True, deed)


if __name__ == "__main__":
    unittest.main()
