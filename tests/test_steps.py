"""Points 501 to 505: situations and steps."""

import copy
import itertools
import unittest

from samescreen.errors import OtherSize
from samescreen.screens.deeds import carry_out_all
from samescreen.screens.screen import is_screen
from samescreen.updates.steps import first_situation, steps
from tests import moves_model, updates_model
from tests.making import PEN, ScreenCase, made
from tests.pairs import drawn_pairs, wrong_sizes


class StepsCase(ScreenCase):
    def compare(self, p, q, situation):
        """Just the steps of the document; what is handed in stays as it is."""
        before = copy.deepcopy((p, q, situation))
        found = steps(p, q, situation)
        if found != updates_model.steps(p, q, situation):
            self.fail("other steps than the model's: " + repr((p, q, situation, found)))
        self.assert_same(found, updates_model.steps(p, q, situation))
        self.assert_same((p, q, situation), before)
        return found

    def words(self, p, q, situation):
        return [word for word, _, _ in self.compare(p, q, situation)]

    def gives(self, p, q, situation, *wanted):
        with self.subTest(situation=situation, p=p, q=q):
            self.assert_same(self.compare(p, q, situation), list(wanted))


class FirstSituation(StepsCase):
    def test_the_cursor_and_the_pen_of_p(self):
        for cursor in moves_model.cursors_of((2, 3)):
            screen = made(("abc", "def"), cursor)
            before = copy.deepcopy(screen)
            self.assert_same(first_situation(screen), (0, cursor, PEN))
            self.assert_same(screen, before)


class AgainstTheModel(StepsCase):
    def test_the_pairs_are_screens(self):
        for p, q in drawn_pairs(20):
            self.assertTrue(is_screen(p) and is_screen(q))

    def test_every_situation_of_small_screens(self):
        for p, q in drawn_pairs(3, ((1, 1), (1, 3), (2, 2), (3, 1))):
            size = updates_model.size_of_screen(p)
            for i in range(size[0] * size[1] + 1):
                for cursor in moves_model.cursors_of(size):
                    for pen in range(16):
                        self.compare(p, q, (i, cursor, pen))

    def test_the_situations_that_steps_lead_to(self):
        for p, q in drawn_pairs(15):
            for situation in updates_model.situations_of(p, q):
                self.compare(p, q, situation)

    def test_every_index_of_the_greatest_screen(self):
        (p, q), = drawn_pairs(1, ((12, 40),))
        for i in range(481):
            cursor = ((0, 0), (5, 40), (3, 17), (11, 39))[i % 4]
            self.compare(p, q, (i, cursor, (0, PEN, 9)[i % 3]))

    def test_each_step_leads_where_it_tells(self):
        for p, q in drawn_pairs(10):
            for i, cursor, pen in updates_model.situations_of(p, q):
                half = (updates_model.flat(q)[:i] + updates_model.flat(p)[i:])
                columns = len(p[0][0])
                rows = [half[k:k + columns] for k in range(0, len(half), columns)]
                for _, deeds, after in steps(p, q, (i, cursor, pen)):
                    found = carry_out_all((rows, cursor, pen) + p[3:], deeds)
                    self.assertEqual(found[3:], p[3:])
                    if after is None:
                        self.assertEqual(found[:3], q[:3])
                        continue
                    self.assertEqual((after[1], after[2]), found[1:3])
                    done = updates_model.flat(found)[:after[0]]
                    self.assertEqual(done, updates_model.flat(q)[:after[0]])


class EachKind(StepsCase):
    def test_an_example(self):
        p = made(("ab", "cd"), (1, 0))
        q = made(("ax", ".."), (0, 2))
        self.gives(
            p, q, (0, (1, 0), PEN),
            ("leave", [], (1, (1, 0), PEN)),
            ("write", [("rise",), ("pen", 1), ("write", "a")], (1, (0, 1), 1)),
        )
        self.gives(p, q, (1, (0, 1), 1), ("write", [("write", "x")], (2, (0, 2), 1)))
        self.gives(
            p, q, (2, (0, 2), 1),
            ("clear", [("back",), ("line",), ("pen", PEN), ("clear", 0)], (4, (1, 0), PEN)),
            ("clear_row", [("back",), ("line",), ("pen", PEN), ("clear_row", 0)], (4, (1, 0), PEN)),
            ("write", [("back",), ("line",), ("pen", PEN), ("write", " ")], (3, (1, 1), PEN)),
        )
        self.gives(
            p, q, (4, (1, 0), PEN),
            ("end", [("tab",), ("rise",), ("pen", 1), ("write", "x"), ("pen", PEN)], None),
        )

    def test_leave(self):
        p = made(("ab.",))
        for text, possible in (("ab.", True), ("xb.", False), (".b.", False)):
            self.assertEqual("leave" in self.words(p, made((text,)), (0, (0, 0), PEN)), possible)
        other_pen = made(("ab.",))
        other_pen[0][0][0] = ("a", 2)
        self.assertNotIn("leave", self.words(p, other_pen, (0, (0, 0), PEN)))
        other_blank = made(("ab.",))
        other_blank[0][0][2] = (" ", PEN + 1)
        self.assertNotIn("leave", self.words(p, other_blank, (2, (0, 0), PEN)))
        for cursor in moves_model.cursors_of((1, 3)):
            self.assertEqual(steps(p, p, (1, cursor, 14))[0], ("leave", [], (2, cursor, 14)))

    def test_clear(self):
        p = made(("abc", "def"))
        for texts, least in (
            (("...", "..."), 0), (("x..", "..."), 1), (("..x", "..."), 3), (("...", "x.."), 4),
            (("...", "..x"), 6), (("abc", ".x."), 5),
        ):
            for i in range(6):
                self.assertEqual("clear" in self.words(p, made(texts), (i, (0, 3), PEN)), i >= least, (texts, i))

    def test_clear_needs_one_pen(self):
        p = made(("abc", "def"))
        for other in range(6):
            q = made(("...", "..."))
            q[0][other // 3][other % 3] = (" ", PEN + 1)
            for i in range(6):
                wanted = i > other or i == other == 5
                self.assertEqual("clear" in self.words(p, q, (i, (0, 0), PEN)), wanted, (other, i))
                row_end = 3 * (i // 3) + 2
                alone = not i <= other <= row_end or i == other == row_end
                self.assertEqual("clear_row" in self.words(p, q, (i, (0, 0), PEN)), alone, (other, i))

    def test_clear_row(self):
        p = made(("abc", "def"))
        for texts, places in (
            (("...", "xyz"), (0, 1, 2)), (("x..", "..y"), (1, 2)), (("..x", "..."), (3, 4, 5)),
            ((".x.", ".x."), (2, 5)), (("xyz", "xyz"), ()),
        ):
            for i in range(6):
                self.assertEqual("clear_row" in self.words(p, made(texts), (i, (1, 3), PEN)), i in places, (texts, i))

    def test_write_is_always_possible(self):
        p, q = made(("ab", "..")), made(("ax", ".."))
        for i in range(4):
            for cursor in moves_model.cursors_of((2, 2)):
                self.assertEqual(self.words(p, q, (i, cursor, 3))[-1], "write")

    def test_the_order(self):
        p, q = made(("a.", "..")), made(("a.", ".."))
        self.assertEqual(self.words(p, q, (0, (0, 0), PEN)), ["leave", "write"])
        for i in (1, 2, 3):
            self.assertEqual(self.words(p, q, (i, (0, 0), PEN)), ["leave", "clear", "clear_row", "write"])
        self.assertEqual(self.words(p, q, (4, (0, 0), PEN)), ["end"])

    def test_pens(self):
        p, q = made(("x.",)), made((".y",))
        for pen in range(16):
            deeds = steps(p, q, (0, (0, 0), pen))[-1][1]
            self.assertEqual(deeds, [("pen", PEN), ("write", " ")][pen == PEN:])
            deeds = steps(p, q, (1, (0, 2), pen))[-1][1]
            self.assertEqual(deeds, [("tab",), ("pen", 1), ("write", "y")] if pen != 1 else [("tab",), ("write", "y")])

    def test_the_band_of_p_counts(self):
        cells = ("ab", "cd", "ef")
        q = made(cells, band=(0, 2))
        for band, move in (((0, 2), ("line",)), ((0, 0), ("down", 1)), ((0, 1), ("line",))):
            deeds = steps(made(cells, band=band), q, (2, (0, 0), 1))[-1][1]
            self.assertEqual(deeds, [move, ("write", "c")])


class Ends(StepsCase):
    def test_the_cursor_is_on_the_screen(self):
        p, q = made(("abc", "def"), (0, 0)), made(("abc", "def"), (1, 1))
        self.gives(p, q, (6, (1, 1), PEN), ("end", [], None))
        self.gives(p, q, (6, (1, 1), 2), ("end", [("pen", PEN)], None))
        self.gives(p, q, (6, (0, 1), PEN), ("end", [("line",)], None))
        self.gives(p, q, (6, (1, 3), 4), ("end", [("back",), ("pen", PEN)], None))

    def test_the_cursor_is_behind_the_last_column_already(self):
        p, q = made(("abc", "def"), (0, 0)), made(("abc", "def"), (1, 3))
        self.gives(p, q, (6, (1, 3), PEN), ("end", [], None))
        self.gives(p, q, (6, (1, 3), 1), ("end", [("pen", PEN)], None))

    def test_the_cursor_gets_behind_the_last_column(self):
        p, q = made(("abc", "def"), (0, 0)), made(("abc", "def"), (1, 3))
        self.gives(p, q, (6, (1, 2), 1), ("end", [("write", "f"), ("pen", PEN)], None))
        self.gives(p, q, (6, (1, 2), PEN), ("end", [("pen", 1), ("write", "f"), ("pen", PEN)], None))
        self.gives(p, q, (6, (0, 3), 7), ("end", [("line",), ("pen", 1), ("write", "f"), ("pen", PEN)], None))
        q = made(("abc", "de."), (1, 3))
        self.gives(p, q, (6, (1, 2), PEN), ("end", [("write", " ")], None))
        self.gives(p, q, (6, (1, 2), 1), ("end", [("pen", PEN), ("write", " ")], None))

    def test_every_cursor_and_pen(self):
        p = made(("ab", "cd", "ef"), (0, 0), (1, 2))
        for goal in moves_model.cursors_of((3, 2)):
            q = made(("ab", "c.", "ef"), goal)
            for cursor, pen in itertools.product(moves_model.cursors_of((3, 2)), (0, 1, PEN)):
                self.assertEqual(self.words(p, q, (6, cursor, pen)), ["end"])


class WrongAndNew(StepsCase):
    def test_other_sizes(self):
        for p, q in wrong_sizes():
            before = copy.deepcopy((p, q))
            with self.assertRaises(OtherSize) as caught:
                steps(p, q, first_situation(p))
            self.assertEqual(caught.exception.at, 0)
            self.assert_same((p, q), before)

    def test_what_is_returned_is_new(self):
        p, q = made(("ab", "..")), made(("a.", ".."), (1, 2))
        for i in range(5):
            situation = (i, (0, 0), 3)
            first = steps(p, q, situation)
            self.assert_own_lists(first, p, q, steps(p, q, situation))
            for _, deeds, _ in first:
                deeds.append(("tab",))
            first.clear()
            self.compare(p, q, situation)

    def test_screens_beyond_the_limits_raise_no_error(self):
        texts = ("abcdefghi" * 5,) * 13
        p, q = made(texts, (12, 45)), made(texts, (0, 45))
        q[0][0][44] = ("x", 16)
        self.assertEqual(
            steps(p, q, (44, (0, 44), 15))[-1], ("write", [("pen", 16), ("write", "x")], (45, (0, 45), 16)))
        self.assertEqual(
            steps(p, q, (585, (0, 44), 16)), [("end", [("write", "x"), ("pen", PEN)], None)])


if __name__ == "__main__":
    unittest.main()
