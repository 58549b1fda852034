"""Point 701: a painter, its present screen, and the bytes that it writes."""

import copy
import unittest

from samescreen.deeds.writing import bytes_of, bytes_of_all
from samescreen.errors import NotADeed, OtherSize
from samescreen.links.painter import Painter
from samescreen.reading.viewer import Viewer
from samescreen.screens.deeds import carry_out, carry_out_all
from samescreen.screens.screen import start_screen
from samescreen.updates.plans import told_update
from tests.making import ScreenCase, codes, made
from tests.pairs import SIZES, drawn_pair
from tests.test_against_model import DEEDS, drawn_deeds

NO_DEEDS = (
    ("",), ("turn",), ("write",), ("write", "%"), ("write", "ab"), ("up", 0), ("up", 10000), ("up", True),
    ("go", 0), ("go", 9999, 0), ("clear", 3), ("pen", 16), ("band", 0), ("wrap", 1), ("save", 0), ("reset", None),
)


class PainterCase(ScreenCase):
    def assert_state(self, painter, screen, count):
        found = painter.screen()
        self.assert_same(found, screen)
        self.assert_same(painter.written(), count)
        self.assert_own_lists(found, painter.screen())


class Painting(PainterCase):
    def test_at_the_start(self):
        for rows in range(1, 13):
            for columns in (1, 2, 39, 40):
                self.assert_state(Painter(rows, columns), start_screen(rows, columns), 0)

    def test_several_targets(self):
        for size in SIZES:
            painter = Painter(*size)
            screen, count = start_screen(*size), 0
            for seed in range(12):
                target = drawn_pair(seed, size)[seed & 1]
                before = copy.deepcopy(target)
                wanted = bytes_of_all(told_update(screen, target))
                self.assert_same(painter.paint(target), wanted)
                self.assert_same(target, before)
                count += len(wanted)
                screen = target[:3] + screen[3:]
                self.assert_state(painter, screen, count)

    def test_the_same_target_again(self):
        painter = Painter(3, 4)
        target = drawn_pair(5, (3, 4))[0]
        self.assertNotEqual(painter.paint(target), [])
        count = painter.written()
        self.assert_same(painter.paint(target), [])
        self.assert_same(painter.paint(painter.screen()), [])
        self.assert_state(painter, target[:3] + start_screen(3, 4)[3:], count)

    def test_an_example(self):
        painter = Painter(1, 3)
        self.assert_same(painter.paint(made(("ab.",), (0, 2))), codes("\x1b[1mab\x1b[5m \t"))
        self.assert_same(painter.paint(made(("x..",), (0, 0))), codes("\r\x1b[1mx\x1b[5m \r"))

    def test_the_band_of_the_present_screen_counts(self):
        for band, size in (((0, 1), 4), (None, 2)):
            painter = Painter(3, 2)
            if band is not None:
                painter.do(("band", *band))
            painter.do(("go", 1, 0))
            target = painter.screen()
            self.assertEqual(len(painter.paint((target[0], (2, 0)) + target[2:])), 1 if band is None else 3)

    def test_what_is_no_look_stays(self):
        painter = Painter(3, 2)
        deeds = [("band", 0, 1), ("wrap", False), ("pen", 4), ("line",), ("line",), ("line",), ("save",)]
        for deed in deeds:
            painter.do(deed)
        screen = painter.screen()
        self.assertEqual(len(screen[6]), 2)
        target = made(("ab", "cd", "ef"), (2, 2), (1, 2), saved=(1, 1, 1), history=("xx",))
        painter.paint(target)
        self.assert_same(painter.screen(), target[:3] + screen[3:])

    def test_the_greatest_screen(self):
        painter = Painter(12, 40)
        viewer = Viewer(12, 40)
        for seed in range(3):
            for target in drawn_pair(seed, (12, 40)):
                viewer.feed(painter.paint(target))
                self.assertEqual(painter.screen()[:3], target[:3])
                self.assertEqual(viewer.screen(), painter.screen())

    def test_a_pen_beyond_the_limits_raises_no_error(self):
        target = made(("ab",))
        target[0][0][1] = ("b", 16)
        painter = Painter(1, 2)
        painter.paint(target)
        self.assertEqual(painter.screen()[:3], target[:3])


class Doing(PainterCase):
    def test_every_kind_of_deed(self):
        start = [("band", 0, 2), ("go", 1, 1), ("pen", 7), ("write", "q"), ("line",), ("line",), ("save",), ("pen", 2)]
        for deed in DEEDS:
            painter = Painter(4, 5)
            for earlier in start:
                painter.do(earlier)
            self.assert_same(painter.do(deed), bytes_of(deed))
            wanted = carry_out(carry_out_all(start_screen(4, 5), start), deed)
            self.assert_state(painter, wanted, len(bytes_of_all(start + [deed])))

    def test_many_deeds(self):
        for seed, size in enumerate(SIZES):
            deeds = drawn_deeds(seed, size[0], size[1], 200)
            painter = Painter(*size)
            data = []
            for deed in deeds:
                data.extend(painter.do(deed))
            self.assert_same(data, bytes_of_all(deeds))
            self.assert_state(painter, carry_out_all(start_screen(*size), deeds), len(data))


class Copies(PainterCase):
    def test_each_goes_its_own_way(self):
        painter = Painter(2, 3)
        painter.paint(made(("abc", "d.f"), (1, 3)))
        for deed in (("line",), ("band", 0, 1), ("wrap", False), ("go", 1, 1), ("save",)):
            painter.do(deed)
        screen, count = painter.screen(), painter.written()
        twin = painter.copy()
        self.assertIsInstance(twin, Painter)
        self.assert_state(twin, screen, count)
        more = len(twin.do(("write", "x"))) + len(twin.paint(made(("...", "xyz"))))
        self.assert_state(painter, screen, count)
        self.assertEqual(twin.written(), count + more)
        moved = twin.screen()
        painter.do(("reset",))
        painter.do(("line",))
        self.assert_state(twin, moved, count + more)

    def test_two_painters_share_nothing(self):
        first, second = Painter(2, 3), Painter(2, 3)
        first.do(("write", "x"))
        self.assert_state(second, start_screen(2, 3), 0)


class Errors(PainterCase):
    def test_sizes_out_of_range(self):
        self.assert_sizes_refused(Painter)

    def test_targets_of_other_sizes(self):
        painter = Painter(2, 3)
        painter.paint(made(("abc", "def"), (1, 3)))
        screen, count = painter.screen(), painter.written()
        for texts in (("ab", "cd"), ("abc",), ("abc", "def", "ghi"), ("abcd", "efgh"), ("ab", "cd", "ef"), ("abcdef",)):
            target = made(texts)
            before = copy.deepcopy(target)
            with self.assertRaises(OtherSize) as caught:
                painter.paint(target)
            self.assertEqual(caught.exception.at, 0)
            self.assert_state(painter, screen, count)
            self.assert_same(target, before)

    def test_what_is_no_deed(self):
        painter = Painter(2, 3)
        painter.do(("write", "x"))
        screen = painter.screen()
        for bad in NO_DEEDS:
            with self.assertRaises(NotADeed) as caught:
                painter.do(bad)
            self.assertEqual(caught.exception.at, 0)
            self.assert_state(painter, screen, 1)


class OwnLists(PainterCase):
    def test_what_is_returned_is_new(self):
        painter = Painter(1, 3)
        target = made(("abc",))
        data = painter.paint(target)
        wanted = painter.screen()
        data.clear()
        painter.do(("save",)).clear()
        for row in painter.screen()[0] + target[0]:
            row[0] = ("?", 9)
        wanted = wanted[:5] + (wanted[1] + (wanted[2],),) + wanted[6:]
        self.assert_state(painter, wanted, painter.written())
        self.assert_same(painter.do(("save",)), [27, 115])


if __name__ == "__main__":
    unittest.main()
