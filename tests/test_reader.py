"""Points 302 and 303: a reader that gets the bytes in pieces."""

import unittest

from samescreen.reading.reader import Reader, read, rest_of, spans
from tests.making import ScreenCase, codes
from tests.test_against_model import drawn_numbers
from tests.test_reading import drawn_bytes

TEXT = codes("a\x1b[12;3Hb\x1b\x1bs%\x1b[5\n\x1b[;\x1b[2K\x1bq\x1b[3J\x1b[99999;1bx\x1b[15mz\x1b[1;")


def pieces_of(data, seed):
    """The bytes in pieces of all kinds of lengths, empty ones among them."""
    numbers = drawn_numbers(seed)
    pieces = []
    done = 0
    while done < len(data):
        count = (0, 1, 1, 2, 3, 5, 8, 40)[next(numbers) & 7]
        pieces.append(data[done:done + count])
        done += count
    return pieces + [[]]


class ReaderCase(ScreenCase):
    def assert_state(self, reader, data):
        """The reader is in the state behind these bytes."""
        self.assert_same(reader.rest(), rest_of(data))
        self.assert_same(reader.taken(), len(data))
        self.assert_same(reader.given(), len(read(data)))

    def feed_all(self, pieces):
        """The deeds of all pieces; the state of the reader is tested behind each one."""
        reader = Reader()
        done, deeds = [], []
        for piece in pieces:
            before = list(piece)
            deeds.extend(reader.feed(piece))
            self.assert_same(piece, before)
            done.extend(piece)
            self.assert_state(reader, done)
        return deeds


class Pieces(ReaderCase):
    def test_at_the_start(self):
        reader = Reader()
        self.assert_same((reader.rest(), reader.taken(), reader.given()), ([], 0, 0))
        self.assert_same(reader.feed([]), [])
        self.assert_same((reader.rest(), reader.taken(), reader.given()), ([], 0, 0))

    def test_an_example(self):
        reader = Reader()
        self.assert_same(reader.feed(codes("a\x1b[1")), [("write", "a")])
        self.assert_same((reader.rest(), reader.taken(), reader.given()), (codes("\x1b[1"), 4, 1))
        self.assert_same(reader.feed(codes("2;")), [])
        self.assert_same((reader.rest(), reader.taken(), reader.given()), (codes("\x1b[12;"), 6, 1))
        self.assert_same(reader.feed(codes("3Hb\x1b")), [("go", 11, 2), ("write", "b")])
        self.assert_same((reader.rest(), reader.taken(), reader.given()), ([27], 10, 3))
        self.assert_same(reader.feed(codes("w")), [("wrap", True)])
        self.assert_same((reader.rest(), reader.taken(), reader.given()), ([], 11, 4))

    def test_every_two_pieces(self):
        for k in range(len(TEXT) + 1):
            self.assert_same(self.feed_all([TEXT[:k], TEXT[k:]]), read(TEXT))

    def test_every_three_pieces(self):
        for k in range(len(TEXT) + 1):
            for n in range(k, len(TEXT) + 1):
                reader = Reader()
                found = reader.feed(TEXT[:k]) + reader.feed(TEXT[k:n]) + reader.feed(TEXT[n:])
                self.assert_same(found, read(TEXT))

    def test_byte_by_byte(self):
        for data in [TEXT] + [drawn_bytes(seed, 150) for seed in range(20)]:
            self.assert_same(self.feed_all([[byte] for byte in data]), read(data))

    def test_drawn_pieces(self):
        for seed in range(60):
            data = drawn_bytes(seed, 300)
            self.assert_same(self.feed_all(pieces_of(data, seed + 7)), read(data))

    def test_the_deeds_of_a_beginning(self):
        for data in [TEXT] + [drawn_bytes(seed, 80) for seed in range(20)]:
            for k in range(len(data) + 1):
                wanted = [deed for _, stop, deed in spans(data) if stop <= k]
                self.assert_same(Reader().feed(data[:k]), wanted)

    def test_more_bytes_than_a_list_may_have(self):
        reader = Reader()
        for _ in range(5):
            self.assert_same(reader.feed(codes("\x1b[") + codes("7") * 19998), [])
        self.assert_same((len(reader.rest()), reader.taken(), reader.given()), (20000, 100000, 0))
        for _ in range(3):
            self.assert_same(reader.feed(codes("1") * 20000), [])
        self.assert_same(len(reader.rest()), 80000)
        self.assert_same(reader.feed(codes("A")), [("up", 9999)])
        self.assert_same((reader.rest(), reader.taken(), reader.given()), ([], 160001, 1))

    def test_a_long_sequence_byte_by_byte(self):
        reader = Reader()
        for byte in codes("\x1b[" + "12;" * 6000):
            self.assertEqual(reader.feed([byte]), [])
        self.assert_same(reader.feed(codes("H")), [("go", 11, 11)])


class Copies(ReaderCase):
    def test_each_goes_its_own_way(self):
        for k in range(len(TEXT) + 1):
            reader = Reader()
            reader.feed(TEXT[:k])
            twin = reader.copy()
            self.assertIsNot(twin, reader)
            self.assertIsInstance(twin, Reader)
            self.assert_state(twin, TEXT[:k])
            other = codes("7;8Hq")
            found = twin.feed(other)
            self.assert_same(read(TEXT[:k]) + found, read(TEXT[:k] + other))
            self.assert_state(twin, TEXT[:k] + other)
            self.assert_state(reader, TEXT[:k])
            self.assert_same(read(TEXT[:k]) + reader.feed(TEXT[k:]), read(TEXT))
            self.assert_state(reader, TEXT)
            self.assert_state(twin, TEXT[:k] + other)

    def test_the_first_one_goes_on_first(self):
        for k in range(len(TEXT) + 1):
            reader = Reader()
            reader.feed(TEXT[:k])
            twin = reader.copy()
            reader.feed(codes("44;5\x1b[6"))
            self.assert_state(twin, TEXT[:k])
            self.assert_same(read(TEXT[:k]) + twin.feed(TEXT[k:]), read(TEXT))

    def test_a_copy_of_a_copy(self):
        reader = Reader()
        done = []
        for byte in TEXT:
            reader = reader.copy().copy()
            reader.feed([byte])
            done.append(byte)
            self.assert_state(reader, done)

    def test_two_readers_share_nothing(self):
        first, second = Reader(), Reader()
        first.feed(codes("x\x1b[5"))
        self.assert_state(second, [])
        self.assert_same(second.feed(codes("A")), [("write", "A")])
        self.assert_same(first.feed(codes("A")), [("up", 5)])


class OwnLists(ReaderCase):
    def test_what_was_handed_in_may_be_changed(self):
        reader = Reader()
        part = codes("\x1b[5")
        reader.feed(part)
        part[:] = codes("zzzzz")
        self.assert_same(reader.rest(), codes("\x1b[5"))
        self.assert_same(reader.feed(codes("A")), [("up", 5)])

    def test_what_was_returned_may_be_changed(self):
        reader = Reader()
        deeds = reader.feed(codes("ab\x1b[5"))
        deeds.clear()
        rest = reader.rest()
        rest.append(90)
        rest[0] = 0
        self.assert_same(reader.rest(), codes("\x1b[5"))
        self.assert_same(reader.given(), 2)
        empty = reader.feed([])
        empty.append("x")
        self.assert_same(reader.feed([]), [])
        self.assert_same(reader.feed(codes("A")), [("up", 5)])
        reader.rest().append(27)
        self.assert_same(reader.rest(), [])

    def test_asking_changes_nothing(self):
        reader = Reader()
        reader.feed(codes("ab\x1b[5"))
        for _ in range(3):
            self.assert_state(reader, codes("ab\x1b[5"))


if __name__ == "__main__":
    unittest.main()
