"""Points 202 to 205, 301 and 302: any bytes, read all at once."""

import copy
import itertools
import string
import unittest

from samescreen.reading.reader import read, rest_of, spans
from samescreen.screens.deeds import is_deed
from tests import reading_model
from tests.making import ScreenCase, codes
from tests.test_against_model import drawn_numbers

PIECES = (
    "\x1b", "\x1b[", "\x1b\x1b", "[", ";", ";;", "0", "1", "7", "12", "0003", "9999", "10000", "%", "\x00", "\xff",
    "A", "H", "J", "K", "b", "m", "Z", "q", "s", "w", "u", "r", "z", "\b", "\t", "\n", "\r", "x", " ", "~", "\x7f",
)


def drawn_bytes(seed, count):
    """Bytes of which many make sequences, the same ones in every run."""
    numbers = drawn_numbers(seed)
    data = []
    while len(data) < count:
        number = next(numbers)
        if number & 7 == 0:
            data.append(next(numbers) & 255)
        elif number & 7 < 4:
            data.extend(codes("\x1b["))
        else:
            data.extend(codes(PIECES[next(numbers) % len(PIECES)]))
    return data[:count]


class Reading(ScreenCase):
    def reads(self, text, deeds, rest=""):
        """The deeds and the rest of the bytes of a text, and what holds for all bytes."""
        data = codes(text)
        with self.subTest(text=text):
            self.assert_same(read(data), deeds)
            self.assert_same(rest_of(data), codes(rest))
            self.assert_same([span[2] for span in spans(data)], deeds)
            self.assert_same(data, codes(text))


class SingleBytes(Reading):
    def test_every_byte(self):
        for byte in range(256):
            wanted = [("write", chr(byte))] if 32 <= byte <= 126 and byte != 37 else []
            wanted = {8: [("back",)], 9: [("tab",)], 10: [("line",)], 13: [("return",)]}.get(byte, wanted)
            self.reads(chr(byte), wanted, "\x1b" if byte == 27 else "")

    def test_a_text(self):
        self.reads("A;1[", [("write", "A"), ("write", ";"), ("write", "1"), ("write", "[")])
        self.reads("a%b\x00\r\n", [("write", "a"), ("write", "b"), ("return",), ("line",)])

    def test_nothing(self):
        self.reads("", [])
        self.assertEqual(spans([]), [])

    def test_beyond_the_bytes(self):
        for number in (-1, 256, 321, 2 ** 32 - 1):
            self.assertEqual(read([number, 65]), [("write", "A")])
            self.assertEqual(read([27, number, 65]), [("write", "A")])
            self.assertEqual(read([27, 91, 53, number, 65]), [("write", "A")])
            self.assertEqual(rest_of([27, number]), [])


class ShortSequences(Reading):
    def test_every_byte_behind_27(self):
        signs = {"s": ("save",), "r": ("restore",), "u": ("rise",), "z": ("reset",)}
        signs.update({"w": ("wrap", True), "v": ("wrap", False)})
        for byte in range(256):
            if chr(byte) in "\x1b[":
                continue
            wanted = [signs[chr(byte)]] if chr(byte) in signs else []
            self.reads("\x1b" + chr(byte), wanted)
            self.reads("\x1b" + chr(byte) + "x", wanted + [("write", "x")])

    def test_27_behind_27(self):
        self.reads("\x1b\x1bs", [("save",)])
        self.reads("\x1b\x1b\x1b\x1b[2A", [("up", 2)])
        self.reads("\x1b\x1bqs", [("write", "s")])
        self.reads("\x1b\x1b\ns", [("write", "s")])

    def test_what_is_passed_over_with_27_begins_nothing(self):
        self.reads("\x1bAB", [("write", "B")])
        self.reads("\x1b\r\r", [("return",)])
        self.reads("\x1b;[A", [("write", "["), ("write", "A")])


class LongSequences(Reading):
    def test_letters_of_both_cases(self):
        for letter in string.ascii_letters:
            for numbers in ("", "0", "1", "2", "3", "15", "16", "2;3", ";3", "2;", ";", ";;", "4;5;6", ";;7"):
                wanted, rest = reading_model.told(codes("\x1b[" + numbers + letter))
                self.assertEqual(rest, [])
                self.reads("\x1b[" + numbers + letter, [deed for _, _, deed in wanted])
        self.reads("\x1b[Zx", [("write", "x")])
        self.reads("\x1b[1;2ax", [("write", "x")])

    def test_numbers_without_digits(self):
        self.reads("\x1b[A", [("up", 1)])
        self.reads("\x1b[;A", [("up", 1)])
        self.reads("\x1b[;5A", [("up", 1)])
        self.reads("\x1b[5;A", [("up", 5)])
        self.reads("\x1b[;H", [("go", 0, 0)])
        self.reads("\x1b[;;7H", [("go", 0, 0)])
        self.reads("\x1b[3;;7H", [("go", 2, 0)])
        self.reads("\x1b[;3;7b", [("band", 0, 2)])
        self.reads("\x1b[4;b", [("band", 3, None)])

    def test_zero_and_zeros_ahead(self):
        self.reads("\x1b[0C", [("right", 1)])
        self.reads("\x1b[000C", [("right", 1)])
        self.reads("\x1b[0012C", [("right", 12)])
        self.reads("\x1b[0;0H", [("go", 0, 0)])
        self.reads("\x1b[01;02H", [("go", 0, 1)])
        self.reads("\x1b[00000002J", [("clear", 2)])
        self.reads("\x1b[2;0b", [("band", 1, None)])
        self.reads("\x1b[" + "0" * 10000 + "7B", [("down", 7)])

    def test_great_numbers(self):
        for digits in ("9999", "10000", "99990", "123456", "4294967296", "9" * 5000, "1" + "0" * 19000):
            self.reads("\x1b[" + digits + "L", [("insert_rows", 9999)])
            self.reads("\x1b[" + digits + ";" + digits[:9] + "H", [("go", 9998, 9998)])
            self.reads("\x1b[;" + digits + "b", [("band", 0, 9998)])
            self.reads("\x1b[" + digits + "K", [])
            self.reads("\x1b[" + digits + "m", [])
        self.reads("\x1b[9998L", [("insert_rows", 9998)])

    def test_many_numbers(self):
        self.reads("\x1b[1;2;3;4;5;6H", [("go", 0, 1)])
        self.reads("\x1b[15;99;99m", [("pen", 15)])
        self.reads("\x1b[16;1m", [])
        self.reads("\x1b[2" + ";3" * 9000 + "K", [("clear_row", 2)])
        self.reads("\x1b[" + ";" * 19000 + "H", [("go", 0, 0)])

    def test_broken_ones(self):
        single = {8: [("back",)], 9: [("tab",)], 10: [("line",)], 13: [("return",)]}
        for byte in range(256):
            if chr(byte) in string.ascii_letters + string.digits + ";\x1b":
                continue
            wanted = [("write", chr(byte))] if 32 <= byte <= 126 and byte != 37 else single.get(byte, [])
            for begun in ("\x1b[", "\x1b[1", "\x1b[;", "\x1b[1;2"):
                self.reads(begun + chr(byte), wanted)
                self.reads(begun + chr(byte) + "A", wanted + [("write", "A")])

    def test_broken_by_27(self):
        for begun in ("\x1b[", "\x1b[1", "\x1b[;", "\x1b[1;2"):
            self.reads(begun + "\x1b[3A", [("up", 3)])
            self.reads(begun + "\x1b[A", [("up", 1)])
            self.reads(begun + "\x1bs", [("save",)])
            self.reads(begun + "\x1bAA", [("write", "A")])
            self.reads(begun + "\x1b", [], "\x1b")
            self.reads(begun + "\x1b\x1b[;4H", [("go", 0, 3)])

    def test_broken_by_a_bracket(self):
        self.reads("\x1b[[A", [("write", "["), ("write", "A")])
        self.reads("\x1b[5[A", [("write", "["), ("write", "A")])

    def test_numbers_of_one_sequence_are_not_those_of_the_next(self):
        self.reads("\x1b[5;6H\x1b[H", [("go", 4, 5), ("go", 0, 0)])
        self.reads("\x1b[5;6\n\x1b[;H", [("line",), ("go", 0, 0)])


class Rest(Reading):
    def test_open_ones(self):
        for ahead, deeds in (("", []), ("x", [("write", "x")]), ("\x1b[4A", [("up", 4)]), ("\x1b[4\x00", [])):
            for behind in ("", "[", "[7", "[12345", "[;", "[;;", "[1;2", "[0;", "[1;;3"):
                rest = "\x1b" + behind
                self.reads(ahead + rest, deeds, rest)
                self.reads("\x1b" + rest, [], rest)

    def test_none_open(self):
        for text in ("x", "\x1bq", "\x1bs", "\x1b[A", "\x1b[Z", "\x1b[1\x00", "\x1b\n", "[", "[1", ";", "\x1b[1["):
            self.assertEqual(rest_of(codes(text)), [])

    def test_long_ones(self):
        for text in ("\x1b[" + "1" * 19998, "\x1b[" + ";" * 19998, "\x1b[" + "12;" * 6666):
            self.reads(text, [], text)

    def test_a_new_list_each_time(self):
        data = codes("x\x1b[1")
        rest_of(data).clear()
        self.assert_same(rest_of(data), codes("\x1b[1"))
        self.assert_same(data, codes("x\x1b[1"))


class Spans(Reading):
    def test_examples(self):
        self.assert_same(spans(codes("aB")), [(0, 1, ("write", "a")), (1, 2, ("write", "B"))])
        self.assert_same(spans(codes("%a")), [(1, 2, ("write", "a"))])
        self.assert_same(spans(codes("\x1b[12;3Hx")), [(0, 7, ("go", 11, 2)), (7, 8, ("write", "x"))])
        self.assert_same(spans(codes("\x1b\x1bsx")), [(1, 3, ("save",)), (3, 4, ("write", "x"))])
        self.assert_same(spans(codes("\x1bqx")), [(2, 3, ("write", "x"))])
        self.assert_same(spans(codes("\x1b[5Zx")), [(4, 5, ("write", "x"))])
        self.assert_same(spans(codes("\x1b[5\n\n")), [(3, 4, ("line",)), (4, 5, ("line",))])
        self.assert_same(spans(codes("\x1b[5\x1b[6A")), [(3, 7, ("up", 6))])
        self.assert_same(spans(codes("x\x1b[\x1b\x1bw\x1b[")), [(0, 1, ("write", "x")), (4, 6, ("wrap", True))])
        self.assert_same(spans(codes("\x1b[3K\x1b[2K")), [(4, 8, ("clear_row", 2))])

    def test_new_lists(self):
        data = codes("ab")
        spans(data).clear()
        read(data).clear()
        self.assertEqual(len(spans(data)), 2)
        self.assertEqual(len(read(data)), 2)


class AgainstTheModel(ScreenCase):
    def compare(self, data):
        wanted, rest = reading_model.told(data)
        found = spans(data)
        if found != wanted or rest_of(data) != rest or read(data) != [deed for _, _, deed in wanted]:
            self.fail("read in another way than by the model: " + repr(data))
        return found

    def test_all_short_lists_of_the_bytes_that_matter(self):
        alphabet = codes("\x1b[;07Abs\n\x00")
        for length in range(6):
            for data in itertools.product(alphabet, repeat=length):
                self.compare(list(data))

    def test_all_two_bytes(self):
        for data in itertools.product(range(256), repeat=2):
            self.compare(list(data))

    def test_drawn_bytes(self):
        words = set()
        for seed in range(300):
            data = drawn_bytes(seed, 200)
            before = copy.deepcopy(data)
            found = self.compare(data)
            self.assert_same(data, before)
            self.keep_to(data, found)
            words.update(deed[0] for _, _, deed in found)
        self.assertEqual(len(words), 23)

    def keep_to(self, data, found):
        """The spans follow each other, and each one alone is read as its deed."""
        last = 0
        for start, stop, deed in found:
            self.assertTrue(last <= start < stop <= len(data))
            self.assertIs(is_deed(deed), True, deed)
            self.assert_same(spans(data[start:stop]), [(0, stop - start, deed)])
            last = stop

    def test_many_bytes(self):
        for seed in range(5):
            self.compare(drawn_bytes(seed + 1000, 20000))

    def test_beyond_the_limit(self):
        self.assertEqual(len(read([65] * 30000)), 30000)


if __name__ == "__main__":
    unittest.main()
