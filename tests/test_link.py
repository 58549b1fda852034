"""Points 702 and 703: a link, which carries the bytes of a painter to a viewer."""

import copy
import unittest

from samescreen.deeds.writing import bytes_of_all
from samescreen.errors import NotADeed, OtherSize
from samescreen.links.link import Link
from samescreen.links.painter import Painter
from samescreen.reading.reader import read, spans
from samescreen.screens.deeds import carry_out_all
from samescreen.screens.screen import start_screen
from tests.making import ScreenCase, codes, made
from tests.pairs import SIZES, drawn_pair
from tests.test_against_model import drawn_deeds, drawn_numbers
from tests.test_painter import NO_DEEDS

COUNTS = (0, 1, 1, 2, 3, 7, 40, 2 ** 32 - 1)


class Twin:
    """What a link should be in, told by a painter and a list of all bytes."""

    def __init__(self, size):
        self.size = size
        self.painter = Painter(*size)
        self.data = []
        self.carried = 0
        self.given = 0

    def carry(self, count):
        self.carried = min(self.carried + count, len(self.data))
        done = [deed for _, stop, deed in spans(self.data) if stop <= self.carried]
        fresh = done[self.given:]
        self.given = len(done)
        return fresh


class LinkCase(ScreenCase):
    def assert_state(self, link, twin):
        self.assert_same(link.pending(), len(twin.data) - twin.carried)
        self.assert_same(link.present(), twin.painter.screen())
        shown = link.shown()
        done = [deed for _, stop, deed in spans(twin.data) if stop <= twin.carried]
        self.assert_same(shown, carry_out_all(start_screen(*twin.size), done))
        self.assert_own_lists([shown, link.present()], [link.shown(), link.present()])
        if link.pending() == 0:
            self.assert_same(shown, link.present())

    def paint(self, link, twin, target):
        before = copy.deepcopy(target)
        self.assertIsNone(link.paint(target))
        self.assert_same(target, before)
        twin.data.extend(twin.painter.paint(target))

    def do(self, link, twin, deed):
        self.assertIsNone(link.do(deed))
        twin.data.extend(twin.painter.do(deed))

    def carry(self, link, twin, count):
        self.assert_same(link.carry(count), twin.carry(count))


class AnyOrder(LinkCase):
    def play(self, size, seed, count):
        link, twin = Link(*size), Twin(size)
        numbers = drawn_numbers(seed)
        deeds = drawn_deeds(seed, size[0], size[1], count)
        for deed in deeds:
            kind = next(numbers) % 7
            if kind == 0:
                self.paint(link, twin, drawn_pair(next(numbers) & 255, size)[0])
            elif kind < 4:
                self.do(link, twin, deed)
            else:
                self.carry(link, twin, COUNTS[next(numbers) & 7])
            self.assert_state(link, twin)
        self.carry(link, twin, 2 ** 32 - 1)
        self.assert_state(link, twin)
        self.assertEqual(link.shown(), link.present())

    def test_small_screens(self):
        for size in SIZES:
            self.play(size, size[1] + 11, 80)

    def test_the_greatest_screen(self):
        self.play((12, 40), 5, 12)

    def test_at_the_start(self):
        for size in ((1, 1), (12, 40), (3, 7)):
            link = Link(*size)
            self.assert_state(link, Twin(size))
            for count in COUNTS:
                self.assert_same(link.carry(count), [])
            self.assert_state(link, Twin(size))

    def test_an_example(self):
        link, twin = Link(2, 3), Twin((2, 3))
        self.do(link, twin, ("pen", 12))
        self.do(link, twin, ("write", "x"))
        self.assertEqual(link.pending(), 6)
        self.assertEqual(link.carry(4), [])
        self.assertEqual(link.shown(), start_screen(2, 3))
        self.assertEqual(link.carry(0), [])
        self.assertEqual(link.carry(1), [("pen", 12)])
        self.assertEqual(link.shown(), carry_out_all(start_screen(2, 3), [("pen", 12)]))
        self.assertEqual(link.carry(9), [("write", "x")])
        self.assertEqual(link.pending(), 0)
        self.assertEqual(link.shown(), link.present())


class Pieces(LinkCase):
    def filled(self, size):
        """A link with the bytes of some deeds and targets, a painter after the same, and its screens."""
        link, painter = Link(*size), Painter(*size)
        data = []
        for seed in range(4):
            target = drawn_pair(seed + 60, size)[1]
            link.paint(target)
            data.extend(painter.paint(target))
            for deed in drawn_deeds(seed, size[0], size[1], 15):
                link.do(deed)
                data.extend(painter.do(deed))
        self.assertEqual(link.pending(), len(data))
        return link, painter, data

    def test_all_pieces_lead_to_the_same_screen(self):
        for size in ((1, 1), (2, 3), (3, 9), (4, 2)):
            for counts in ([1], [2], [3], [5, 0, 1], [1, 30], [2 ** 32 - 1], [7, 7, 1]):
                link, painter, data = self.filled(size)
                deeds = []
                k = 0
                while link.pending() > 0:
                    deeds.extend(link.carry(counts[k % len(counts)]))
                    k += 1
                self.assert_same(deeds, read(data))
                self.assert_same(link.shown(), painter.screen())
                self.assert_same(link.present(), painter.screen())

    def test_each_moment_byte_by_byte(self):
        for size in ((2, 3), (3, 9)):
            link, painter, data = self.filled(size)
            deeds = read(data)
            self.assertEqual(bytes_of_all(deeds), data)
            screens = [start_screen(*size)]
            for deed in deeds:
                screens.append(carry_out_all(screens[-1], [deed]))
            self.assertEqual(screens[-1], painter.screen())
            done = 0
            for k in range(len(data)):
                done += len(link.carry(1))
                self.assertEqual(link.pending(), len(data) - k - 1)
                self.assertEqual(done, len([1 for _, stop, _ in spans(data) if stop <= k + 1]))
                self.assertEqual(link.shown(), screens[done])


class Errors(LinkCase):
    def test_sizes_out_of_range(self):
        self.assert_sizes_refused(Link)

    def test_errors_change_nothing(self):
        size = (2, 3)
        link, twin = Link(*size), Twin(size)
        self.paint(link, twin, made(("abc", "d.f"), (1, 3)))
        self.do(link, twin, ("go", 1, 1))
        self.carry(link, twin, len(twin.data) - 2)
        for texts in (("ab", "cd"), ("abc",), ("abc", "def", "ghi"), ("abcdef",)):
            with self.assertRaises(OtherSize) as caught:
                link.paint(made(texts))
            self.assertEqual(caught.exception.at, 0)
            self.assert_state(link, twin)
        for bad in NO_DEEDS:
            with self.assertRaises(NotADeed) as caught:
                link.do(bad)
            self.assertEqual(caught.exception.at, 0)
            self.assert_state(link, twin)
        self.assert_same(link.carry(5), [("go", 1, 1)])


class OwnLists(LinkCase):
    def test_what_is_returned_is_new(self):
        size = (2, 3)
        link, twin = Link(*size), Twin(size)
        target = made(("abc", "d.f"), (1, 1))
        self.paint(link, twin, target)
        self.do(link, twin, ("line",))
        self.carry(link, twin, 9)
        for screen in (link.present(), link.shown(), target):
            for row in screen[0] + screen[6]:
                row[0] = ("?", 9)
            screen[0].pop()
            screen[6].append([("x", 1)] * 3)
        self.assert_state(link, twin)
        link.carry(1).clear()
        twin.carry(1)
        self.assert_state(link, twin)

    def test_two_links_share_nothing(self):
        first, second = Link(2, 3), Link(2, 3)
        first.do(("write", "x"))
        first.carry(1)
        first.do(("pen", 3))
        self.assert_state(second, Twin((2, 3)))


if __name__ == "__main__":
    unittest.main()
