"""Point 110: lists of deeds; and the errors of the functions that carry them out."""

import copy
import unittest

from samescreen.errors import NotADeed
from samescreen.screens.deeds import carry_out, carry_out_all
from samescreen.screens.screen import shown_text, start_screen
from tests.making import ScreenCase, made
from tests.test_against_model import drawn_deeds

NO_DEED = ("up", 0)


class CarryOutAll(ScreenCase):
    def test_a_text(self):
        deeds = [("write", char) for char in "Hello, you"] + [("return",), ("line",), ("pen", 3), ("write", "!")]
        found = carry_out_all(start_screen(3, 6), deeds)
        self.assertEqual(shown_text(found), "Hello,\n you  \n!     \n")
        self.assert_same(found[0][2], [("!", 3)] + [(" ", 0)] * 5)
        self.assert_same(found[1:], ((2, 1), 3, (0, 2), True, (0, 0, 0), []))

    def test_the_order_counts(self):
        first = carry_out_all(made(), [("clear", 2), ("write", "X")])
        second = carry_out_all(made(), [("write", "X"), ("clear", 2)])
        self.assertEqual(shown_text(first)[0], "X")
        self.assertEqual(shown_text(second)[0], " ")

    def test_one_after_the_other(self):
        for seed, (rows, columns) in enumerate(((1, 1), (3, 5), (12, 40))):
            deeds = drawn_deeds(seed + 50, rows, columns, 120)
            screen = carry_out_all(start_screen(rows, columns), drawn_deeds(seed, rows, columns, 30))
            before = copy.deepcopy(screen)
            wanted = screen
            for deed in deeds:
                wanted = carry_out(wanted, deed)
            self.assert_same(carry_out_all(screen, deeds), wanted)
            self.assert_same(screen, before)

    def test_a_beginning_and_then_the_rest(self):
        deeds = drawn_deeds(7, 4, 6, 60)
        start = start_screen(4, 6)
        wanted = carry_out_all(start, deeds)
        for k in range(len(deeds) + 1):
            begun = carry_out_all(start, deeds[:k])
            self.assert_same(carry_out_all(begun, deeds[k:]), wanted)

    def test_no_deeds(self):
        for screen in (start_screen(1, 1), start_screen(12, 40), made(cursor=(2, 5), history=("vwxyz",) * 50)):
            found = carry_out_all(screen, [])
            self.assert_same(found, screen)
            self.assert_own_lists(found, screen, carry_out_all(screen, []))

    def test_arguments_stay_and_nothing_is_shared(self):
        deeds = [("down", 3), ("line",), ("insert", 2), ("clear_row", 0), ("save",), ("delete_rows", 2), ("line",)]
        screen = made(history=("vwxyz",))
        before = copy.deepcopy((screen, deeds))
        found = carry_out_all(screen, deeds)
        self.assert_same((screen, deeds), before)
        self.assert_own_lists(found, screen, deeds, carry_out_all(screen, deeds))

    def test_changing_a_result_changes_nothing_else(self):
        screen = made(history=("vwxyz",))
        before = copy.deepcopy(screen)
        found = carry_out_all(screen, [("pen", 2)])
        wanted = copy.deepcopy(found)
        for row in found[0] + found[6]:
            row[0] = ("?", 9)
        found[0].pop()
        found[6].clear()
        self.assert_same(screen, before)
        self.assert_same(carry_out_all(screen, [("pen", 2)]), wanted)

    def test_2000_deeds(self):
        screen = carry_out_all(start_screen(12, 40), [("line",)] * 1000 + [("right", 1)] * 1000)
        self.assertEqual(screen[1], (11, 39))
        self.assertEqual(len(screen[6]), 50)


class Errors(ScreenCase):
    def refused(self, deeds, at):
        screen = made(cursor=(3, 5))
        before = copy.deepcopy((screen, deeds))
        with self.subTest(deeds=deeds):
            with self.assertRaises(NotADeed) as caught:
                carry_out_all(screen, deeds)
            self.assertEqual(caught.exception.at, at)
            self.assert_same((screen, deeds), before)

    def test_the_first_one_that_is_none(self):
        for at in range(6):
            deeds = [("line",)] * 6
            deeds[at] = NO_DEED
            self.refused(deeds, at)
            self.refused(deeds + [("turn",)], at)
            self.refused(deeds[:at + 1] + [("write", "%")] * 2, at)

    def test_only_that_one(self):
        self.refused([NO_DEED], 0)
        self.refused([("write", "x")] * 1999 + [NO_DEED], 1999)

    def test_carry_out_tells_index_0(self):
        with self.assertRaises(NotADeed) as caught:
            carry_out(made(), NO_DEED)
        self.assertEqual(caught.exception.at, 0)


if __name__ == "__main__":
    unittest.main()
