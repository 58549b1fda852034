"""Points 206 and 207: the bytes of deeds."""

import copy
import itertools
import unittest

from samescreen.deeds.writing import bytes_of, bytes_of_all, size_of
from samescreen.errors import NotADeed
from samescreen.reading.reader import read, rest_of, spans
from samescreen.screens.deeds import is_deed
from tests.making import ScreenCase, codes
from tests.test_against_model import drawn_deeds

COUNTED = {
    "up": "A", "down": "B", "right": "C", "left": "D",
    "insert": "I", "delete": "P", "insert_rows": "L", "delete_rows": "N",
}
LETTERS = "ABCDIPLNHKJmb"

SHORT = {
    ("back",): "\b",
    ("tab",): "\t",
    ("line",): "\n",
    ("return",): "\r",
    ("save",): "\x1bs",
    ("restore",): "\x1br",
    ("rise",): "\x1bu",
    ("reset",): "\x1bz",
    ("wrap", True): "\x1bw",
    ("wrap", False): "\x1bv",
}

LONG = {
    ("go", 0, 0): "\x1b[H",
    ("go", 0, 1): "\x1b[;2H",
    ("go", 0, 4): "\x1b[;5H",
    ("go", 1, 0): "\x1b[2H",
    ("go", 11, 39): "\x1b[12;40H",
    ("go", 9998, 0): "\x1b[9999H",
    ("go", 0, 9998): "\x1b[;9999H",
    ("go", 9998, 9998): "\x1b[9999;9999H",
    ("clear_row", 0): "\x1b[K",
    ("clear_row", 1): "\x1b[1K",
    ("clear_row", 2): "\x1b[2K",
    ("clear", 0): "\x1b[J",
    ("clear", 1): "\x1b[1J",
    ("clear", 2): "\x1b[2J",
    ("pen", 0): "\x1b[m",
    ("pen", 1): "\x1b[1m",
    ("pen", 15): "\x1b[15m",
    ("band", 0, None): "\x1b[b",
    ("band", 0, 0): "\x1b[;1b",
    ("band", 0, 11): "\x1b[;12b",
    ("band", 5, None): "\x1b[6b",
    ("band", 5, 0): "\x1b[6;1b",
    ("band", 1, 2): "\x1b[2;3b",
    ("band", 0, 9998): "\x1b[;9999b",
    ("band", 9998, None): "\x1b[9999b",
    ("band", 9998, 0): "\x1b[9999;1b",
    ("band", 9998, 9998): "\x1b[9999;9999b",
}

NO_DEEDS = (
    ("",), ("turn",), ("write",), ("write", "%"), ("write", ""), ("write", "ab"), ("write", "\x1b"),
    ("write", 65), ("line", 1), ("up",), ("up", 0), ("up", 10000), ("up", True), ("up", "1"), ("up", None),
    ("go", 1), ("go", -1, 0), ("go", 9999, 0), ("go", 0, 9999), ("go", 0, None), ("go", 0, 0, 0),
    ("clear", 3), ("clear_row", False), ("pen", 16), ("pen", True), ("band", 0), ("band", None, 1),
    ("band", 0, 9999), ("band", 0, True), ("wrap",), ("wrap", 1), ("wrap", 0), ("wrap", None), ("save", 0),
)


def edges():
    """Each kind of deed with its least and greatest numbers, and the bytes it should have."""
    found = dict(SHORT)
    found.update(LONG)
    for code in range(32, 127):
        if code != 37:
            found[("write", chr(code))] = chr(code)
    for word, letter in COUNTED.items():
        found[(word, 1)] = "\x1b[" + letter
        for n in (2, 9, 10, 40, 99, 100, 999, 1000, 9998, 9999):
            found[(word, n)] = "\x1b[" + str(n) + letter
    return [(deed, codes(text)) for deed, text in found.items()]


def best(lists):
    """For each deed that one of the lists is read as alone: the shortest and then first list."""
    found = {}
    for data in lists:
        deeds = read(data)
        if len(deeds) == 1:
            rank = (len(data), data)
            found[deeds[0]] = min(rank, found.get(deeds[0], rank))
    return {deed: data for deed, (_, data) in found.items()}


def digit_texts(longest):
    for length in range(longest + 1):
        for digits in itertools.product("0123456789", repeat=length):
            yield "".join(digits)


class BytesOf(ScreenCase):
    def test_every_kind_at_its_edges(self):
        for deed, wanted in edges():
            with self.subTest(deed=deed):
                self.assertIs(is_deed(deed), True)
                self.assert_same(bytes_of(deed), wanted)
                self.assert_same(size_of(deed), len(wanted))
                self.assert_same(read(wanted), [deed])

    def test_the_examples_of_the_document(self):
        self.assertEqual(bytes_of(("up", 1)), [27, 91, 65])
        self.assertEqual(bytes_of(("go", 0, 4)), [27, 91, 59, 53, 72])

    def test_every_count(self):
        for n in range(1, 10000):
            deed = ("left", n)
            self.assert_same(bytes_of(deed), codes("\x1b[" + (str(n) if n > 1 else "") + "D"))
            self.assert_same(read(bytes_of(deed)), [deed])

    def test_every_place(self):
        for place in range(9999):
            for deed in (("go", place, 0), ("go", 0, place), ("band", place, None), ("band", 0, place)):
                written = bytes_of(deed)
                self.assertEqual(len(written), size_of(deed))
                self.assert_same(read(written), [deed])

    def test_a_new_list_each_time(self):
        for deed, wanted in edges():
            written = bytes_of(deed)
            written.append(0)
            written[0] = 1
            self.assert_same(bytes_of(deed), wanted)
            self.assertEqual(size_of(deed), len(wanted))

    def test_what_is_no_deed(self):
        for deed in NO_DEEDS:
            for function in (bytes_of, size_of):
                with self.subTest(deed=deed):
                    with self.assertRaises(NotADeed) as caught:
                        function(deed)
                    self.assertEqual(caught.exception.at, 0)


class TheShortestAndFirst(ScreenCase):
    def compare(self, lists):
        found = best(lists)
        for deed, data in found.items():
            self.assert_same(bytes_of(deed), data)
        return found

    def test_all_lists_of_one_and_two_bytes(self):
        lists = [[byte] for byte in range(256)]
        lists += [[first, second] for first in range(256) for second in range(256)]
        found = self.compare(lists)
        self.assertEqual(set(found), set(SHORT) | {("write", chr(code)) for code in range(32, 127) if code != 37})

    def test_short_lists_of_the_bytes_that_matter(self):
        alphabet = sorted(codes("\x1b[;0129AHKmbxsw%\b\n\x00"))
        lists = [list(data) for length in range(5) for data in itertools.product(alphabet, repeat=length)]
        found = self.compare(lists)
        for deed in (("up", 1), ("up", 9), ("go", 0, 0), ("go", 1, 0), ("clear_row", 2), ("pen", 0), ("band", 1, None)):
            self.assertIn(deed, found)

    def test_all_single_numbers(self):
        for letter in LETTERS:
            lists = [codes("\x1b[" + text + letter) for text in digit_texts(4)]
            found = self.compare(lists)
            many = {"K": 3, "J": 3, "m": 16}.get(letter, 9999)
            self.assertEqual(len(found), many, letter)

    def test_pairs_of_numbers(self):
        texts = list(digit_texts(1)) + ["00", "01", "10", "12", "012", "0000", "999", "0999"]
        texts += ["9998", "9999", "10000", "99999"]
        pairs = [first + ";" + second for first in texts for second in texts] + texts
        pairs += [pair + more for pair in pairs for more in (";", ";0", ";7")]
        for letter in "Hb":
            found = self.compare([codes("\x1b[" + pair + letter) for pair in pairs])
            for place in (0, 1, 8, 9, 11, 9997, 9998):
                for other in (0, 1, 8, 9, 11, 9997, 9998):
                    deed = ("go", place, other) if letter == "H" else ("band", place, other)
                    self.assertIn(deed, found)
            if letter == "b":
                self.assertIn(("band", 9998, None), found)


class BytesOfAll(ScreenCase):
    def all_deeds(self):
        return [deed for deed, _ in edges()] + drawn_deeds(3, 12, 40, 300)

    def test_one_after_the_other(self):
        deeds = self.all_deeds()
        before = copy.deepcopy(deeds)
        written = bytes_of_all(deeds)
        self.assert_same(written, [byte for deed in deeds for byte in bytes_of(deed)])
        self.assert_same(deeds, before)
        self.assert_same(read(written), deeds)
        self.assertEqual(rest_of(written), [])

    def test_a_text(self):
        deeds = [("pen", 3), ("write", "["), ("write", "1"), ("up", 1), ("write", "A"), ("wrap", True)]
        self.assert_same(bytes_of_all(deeds), codes("\x1b[3m[1\x1b[AA\x1bw"))

    def test_behind_other_bytes(self):
        deeds = self.all_deeds()
        written = bytes_of_all(deeds)
        for ahead in ([], [0], [37], [255], codes("x"), codes("\x1b[5;Z"), codes("\x1bs"), codes("\x1b[1\x00"),
                      codes("\x1b\x1bq"), codes("\x1b\n"), codes("[;5"), codes("\x1b[9K")):
            self.assertEqual(rest_of(ahead), [])
            self.assert_same(read(ahead + written), read(ahead) + deeds)

    def test_ahead_of_any_bytes(self):
        for deed, written in edges():
            for byte in range(256):
                found = spans(written + [byte])
                self.assert_same(found[0], (0, len(written), deed))
            for behind in (codes("\x1b"), codes("\x1b["), codes("[A"), codes(";;5H"), codes("\x1b\x1bs")):
                self.assert_same(read(written + behind), [deed] + read(behind))

    def test_every_two_deeds(self):
        found = edges()[::5]
        for (first, ahead), (second, behind) in itertools.product(found, found):
            self.assert_same(read(ahead + behind), [first, second])

    def test_no_deeds(self):
        nothing = []
        written = bytes_of_all(nothing)
        self.assert_same(written, [])
        written.append(7)
        self.assertEqual(nothing, [])
        self.assert_same(bytes_of_all([]), [])

    def test_many_deeds(self):
        self.assertEqual(len(bytes_of_all([("go", 9998, 9998)] * 2000)), 24000)

    def test_the_first_one_that_is_no_deed(self):
        for bad in NO_DEEDS:
            for at in (0, 1, 4):
                deeds = [("write", "x"), ("up", 1), ("band", 1, None), ("wrap", False), ("save",)]
                deeds[at] = bad
                for more in ([], [("turn",)], [("line",), ("up", 0)]):
                    given = deeds + more
                    before = copy.deepcopy(given)
                    with self.assertRaises(NotADeed) as caught:
                        bytes_of_all(given)
                    self.assertEqual(caught.exception.at, at)
                    self.assert_same(given, before)


if __name__ == "__main__":
    unittest.main()
