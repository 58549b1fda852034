"""Point 304: a viewer, the screen of which follows the bytes."""

import itertools
import unittest

from samescreen.deeds.writing import bytes_of_all
from samescreen.errors import OutOfRange
from samescreen.reading.reader import Reader, read, rest_of
from samescreen.reading.viewer import Viewer
from samescreen.screens.deeds import carry_out_all
from samescreen.screens.screen import is_screen, shown_text, start_screen
from tests.making import ScreenCase, codes
from tests.test_against_model import drawn_deeds
from tests.test_reader import pieces_of
from tests.test_reading import drawn_bytes

SIZES = ((1, 1), (1, 9), (2, 5), (4, 3), (12, 40))


class ViewerCase(ScreenCase):
    def assert_state(self, viewer, size, data):
        """The viewer is in the state behind these bytes."""
        found = viewer.screen()
        self.assert_same(found, carry_out_all(start_screen(*size), read(data)))
        self.assertTrue(is_screen(found))
        self.assert_same(viewer.rest(), rest_of(data))

    def feed_all(self, size, pieces):
        viewer = Viewer(*size)
        reader = Reader()
        done = []
        for piece in pieces:
            before = list(piece)
            self.assert_same(viewer.feed(piece), len(reader.feed(piece)))
            self.assert_same(piece, before)
            done.extend(piece)
            self.assert_state(viewer, size, done)


class Feeding(ViewerCase):
    def test_at_the_start(self):
        for rows in range(1, 13):
            for columns in (1, 2, 39, 40):
                viewer = Viewer(rows, columns)
                self.assert_same(viewer.screen(), start_screen(rows, columns))
                self.assert_same(viewer.rest(), [])
                self.assert_same(viewer.feed([]), 0)
                self.assert_same(viewer.screen(), start_screen(rows, columns))

    def test_an_example(self):
        viewer = Viewer(2, 5)
        self.assert_same(viewer.feed(codes("Hi\x1b[3")), 2)
        self.assertEqual(shown_text(viewer.screen()), "Hi   \n     \n")
        self.assert_same(viewer.rest(), codes("\x1b[3"))
        self.assert_same(viewer.feed(codes("m")), 1)
        self.assert_same(viewer.screen()[2], 3)
        self.assert_same(viewer.feed(codes("\x00%\x1bq")), 0)
        self.assert_same(viewer.feed(codes("\r\n!")), 3)
        self.assertEqual(shown_text(viewer.screen()), "Hi   \n!    \n")
        self.assert_same(viewer.screen()[0][1][0], ("!", 3))
        self.assert_same(viewer.screen()[1], (1, 1))
        self.assert_same(viewer.rest(), [])

    def test_the_whole_state_follows(self):
        viewer = Viewer(4, 5)
        deeds = [("band", 0, 2), ("wrap", False), ("pen", 7), ("down", 2), ("line",), ("right", 3), ("save",)]
        self.assert_same(viewer.feed(bytes_of_all(deeds)), 7)
        screen = viewer.screen()
        self.assert_same(screen[3:6], ((0, 2), False, (2, 3, 7)))
        self.assert_same(screen[6], [[(" ", 0)] * 5])
        self.assert_same(viewer.feed(codes("\x1bz")), 1)
        self.assert_same(viewer.screen(), start_screen(4, 5)[:6] + ([[(" ", 0)] * 5],))

    def test_drawn_bytes_in_pieces(self):
        for seed, size in itertools.product(range(12), SIZES):
            self.feed_all(size, pieces_of(drawn_bytes(seed, 250), seed + 3))

    def test_byte_by_byte(self):
        for size in SIZES:
            self.feed_all(size, [[byte] for byte in drawn_bytes(99, 200)])

    def test_drawn_deeds(self):
        for seed, size in enumerate(SIZES):
            deeds = drawn_deeds(seed, size[0], size[1], 500)
            viewer = Viewer(*size)
            self.assert_same(viewer.feed(bytes_of_all(deeds)), len(deeds))
            self.assert_same(viewer.screen(), carry_out_all(start_screen(*size), deeds))

    def test_many_single_bytes(self):
        data = drawn_bytes(5, 10000)
        viewer = Viewer(12, 40)
        count = sum([viewer.feed([byte]) for byte in data])
        self.assert_same(count, len(read(data)))
        self.assert_state(viewer, (12, 40), data)


class Copies(ViewerCase):
    def test_each_goes_its_own_way(self):
        data = codes("ab\x1b[3") + drawn_bytes(8, 120)
        other = codes("7;8HQ\x1b[9m\n\n\n\n\x1bs")
        for size in ((2, 5), (4, 3)):
            for k in range(0, len(data) + 1, 5):
                viewer = Viewer(*size)
                viewer.feed(data[:k])
                twin = viewer.copy()
                self.assertIsNot(twin, viewer)
                self.assertIsInstance(twin, Viewer)
                self.assert_state(twin, size, data[:k])
                twin.feed(other)
                self.assert_state(viewer, size, data[:k])
                viewer.feed(data[k:])
                self.assert_state(viewer, size, data)
                self.assert_state(twin, size, data[:k] + other)

    def test_the_first_one_goes_on_first(self):
        viewer = Viewer(3, 4)
        viewer.feed(codes("abc\n\n\n\x1b[4"))
        twin = viewer.copy()
        viewer.feed(codes("m\x1b[2Jxyz\n\n\x1b["))
        self.assert_state(twin, (3, 4), codes("abc\n\n\n\x1b[4"))

    def test_two_viewers_share_nothing(self):
        first, second = Viewer(2, 3), Viewer(2, 3)
        first.feed(codes("abcdef\n\x1b[2"))
        self.assert_state(second, (2, 3), [])


class OwnLists(ViewerCase):
    def test_the_screen_is_new_each_time(self):
        data = codes("abcd\n\n\nxy\x1b[1")
        viewer = Viewer(2, 3)
        viewer.feed(data)
        first = viewer.screen()
        self.assert_own_lists(first, viewer.screen(), viewer.copy().screen())
        for row in first[0] + first[6]:
            row[0] = ("?", 9)
        first[0].pop()
        first[6].clear()
        self.assert_state(viewer, (2, 3), data)

    def test_rest_and_parts_may_be_changed(self):
        viewer = Viewer(2, 3)
        part = codes("a\x1b[2")
        viewer.feed(part)
        part[:] = codes("QQQQ")
        viewer.rest().append(65)
        viewer.rest().clear()
        self.assert_state(viewer, (2, 3), codes("a\x1b[2"))
        viewer.feed(codes("B"))
        self.assert_state(viewer, (2, 3), codes("a\x1b[2B"))


class Errors(ScreenCase):
    def refused(self, rows, columns, at):
        with self.subTest(rows=rows, columns=columns):
            with self.assertRaises(OutOfRange) as caught:
                Viewer(rows, columns)
            self.assertEqual(caught.exception.at, at)

    def test_rows_out_of_range(self):
        for rows in (-2 ** 40, -1, 0, 13, 14, 2 ** 32):
            for columns in (-1, 0, 1, 40, 41, 2 ** 32):
                self.refused(rows, columns, 0)

    def test_columns_out_of_range(self):
        for rows in (1, 2, 11, 12):
            for columns in (-2 ** 40, -1, 0, 41, 42, 2 ** 32):
                self.refused(rows, columns, 1)


if __name__ == "__main__":
    unittest.main()
