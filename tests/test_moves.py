"""Points 401 and 402: the moves from a cursor, and where they lead."""

import copy
import unittest

from samescreen.deeds.writing import bytes_of
from samescreen.errors import NoMove
from samescreen.moves.moves import moves_from, place_after
from samescreen.screens.deeds import carry_out
from tests import moves_model
from tests.making import ScreenCase, made

LETTERS = "abcdefghijklmnopqrstuvwxyz" * 3

SMALL = tuple((rows, columns) for rows in (1, 2, 3, 4) for columns in (1, 2, 3))
WIDE = ((1, 9), (1, 40), (2, 17), (12, 1))

# Tuples that are a move from no cursor of a screen of 3 rows and 9 columns.
NO_MOVES = (
    ("",), ("turn",), ("end",), ("up",), ("up", 0), ("up", 41), ("down", 41), ("left", 41), ("right", 41),
    ("right", 0), ("left", 9999), ("down", 10000), ("up", True), ("down", "1"), ("left", None), ("up", 1, 1),
    ("back", 1), ("tab", 1), ("return", None), ("line", 1), ("rise", 1), ("go",), ("go", 0), ("go", 3, 0),
    ("go", 0, 9), ("go", 9998, 9998), ("go", 9999, 0), ("go", True, 0), ("go", 0, False), ("go", 0, None),
    ("go", 0, 0, 0), ("write", "x"), ("clear_row", 0), ("clear", 2), ("insert", 1), ("delete", 1),
    ("insert_rows", 1), ("delete_rows", 1), ("pen", 3), ("band", 0, 1), ("band", 0, None), ("wrap", True),
    ("save",), ("restore",), ("reset",),
)


def screen_of(size, band, cursor):
    """A screen without two equal rows, on which every other change than the cursor's shows."""
    texts = [LETTERS[row:row + size[1]] for row in range(size[0])]
    return made(texts, cursor, band, saved=(size[0] - 1, size[1], 9), history=(LETTERS[-size[1]:],))


class MovesFrom(ScreenCase):
    def compare(self, size, band, cursor):
        """Just the moves of the document, in their order."""
        found = moves_from(size, band, cursor)
        model = moves_model.landings(size, band, cursor)
        wanted = [(move, there) for move, there, _ in sorted(model, key=lambda entry: entry[2])]
        with self.subTest(size=size, band=band, cursor=cursor):
            self.assert_same(found, wanted)
        return found

    def carry_out_each(self, size, band, cursor):
        """Carrying out a move changes nothing but the cursor."""
        screen = screen_of(size, band, cursor)
        for move, there in moves_from(size, band, cursor):
            after = carry_out(screen, move)
            self.assertEqual(after[1], there, move)
            self.assertEqual(after[0], screen[0], move)
            self.assertEqual(after[2:], screen[2:], move)

    def test_every_cursor_of_small_screens(self):
        for size in SMALL:
            for band in moves_model.bands_of(size):
                for cursor in moves_model.cursors_of(size):
                    self.compare(size, band, cursor)

    def test_every_cursor_of_wide_and_high_screens(self):
        for size in WIDE:
            for band in moves_model.bands_of(size)[::9]:
                for cursor in moves_model.cursors_of(size)[::3]:
                    self.compare(size, band, cursor)

    def test_the_greatest_screen(self):
        size = (12, 40)
        for band in ((0, 11), (0, 0), (3, 8), (11, 11)):
            for cursor in ((0, 0), (3, 7), (8, 8), (11, 39), (5, 40), (11, 40)):
                found = self.compare(size, band, cursor)
                lines = (cursor[0] not in (band[1], 11)) + (cursor[0] not in (band[0], 0))
                self.assertEqual(len(found), 3 + 160 + 480 + lines)

    def test_only_the_cursor_changes(self):
        for size in SMALL[::2] + WIDE:
            for band in moves_model.bands_of(size)[::4]:
                for cursor in moves_model.cursors_of(size)[::5]:
                    self.carry_out_each(size, band, cursor)
        self.carry_out_each((12, 40), (2, 9), (9, 40))
        self.carry_out_each((12, 40), (2, 9), (2, 17))

    def test_ascending_by_their_bytes(self):
        for size, cursor in (((1, 1), (0, 0)), ((3, 12), (1, 12)), ((12, 40), (4, 4))):
            data = [bytes_of(move) for move, _ in moves_from(size, (0, size[0] - 1), cursor)]
            self.assertEqual(data, sorted(data))
            self.assertEqual(len(data), len({tuple(written) for written in data}))

    def test_line_and_rise_only_where_they_are_moves(self):
        for band in moves_model.bands_of((6, 2)):
            for row in range(6):
                for column in (0, 2):
                    found = dict(moves_from((6, 2), band, (row, column)))
                    self.assertEqual(("line",) in found, row != band[1] and row != 5, (band, row))
                    self.assertEqual(("rise",) in found, row != band[0] and row != 0, (band, row))

    def test_an_example(self):
        found = moves_from((2, 3), (0, 1), (0, 3))
        self.assert_same(found[:4], [(("back",), (0, 1)), (("tab",), (0, 2)), (("line",), (1, 2)), (("return",), (0, 0))])
        self.assert_same(found[-1], (("go", 0, 0), (0, 0)))
        self.assertIn((("right", 40), (0, 2)), found)
        self.assertIn((("down", 1), (1, 2)), found)
        self.assertNotIn(("rise",), dict(found))

    def test_tabs_on_the_widest_screen(self):
        for column in range(41):
            found = dict(moves_from((1, 40), (0, 0), (0, column)))
            self.assertEqual(found[("tab",)], (0, min(8 * (column // 8) + 8, 39)))

    def test_a_new_list_each_time(self):
        first = moves_from((2, 3), (0, 1), (0, 0))
        wanted = list(first)
        first.clear()
        self.assert_same(moves_from((2, 3), (0, 1), (0, 0)), wanted)

    def test_a_screen_beyond_the_limits_raises_no_error(self):
        self.assertEqual(len(moves_from((13, 41), (0, 12), (5, 41))), 3 + 160 + 13 * 41 + 2)


class PlaceAfter(ScreenCase):
    def refused(self, size, band, cursor, moves, at):
        before = copy.deepcopy(moves)
        with self.subTest(band=band, cursor=cursor, moves=moves):
            with self.assertRaises(NoMove) as caught:
                place_after(size, band, cursor, moves)
            self.assertEqual(caught.exception.at, at)
            self.assert_same(moves, before)

    def test_no_moves(self):
        for cursor in moves_model.cursors_of((3, 4)):
            self.assert_same(place_after((3, 4), (1, 2), cursor, []), cursor)

    def test_each_move_alone(self):
        for size, band in (((3, 9), (0, 2)), ((3, 9), (1, 1)), ((1, 1), (0, 0)), ((4, 2), (1, 2))):
            for cursor in moves_model.cursors_of(size):
                for move, there, _ in moves_model.landings(size, band, cursor)[::3]:
                    self.assert_same(place_after(size, band, cursor, [move]), there)

    def test_several_moves(self):
        size, band = (5, 20), (0, 4)
        moves = [("tab",), ("tab",), ("line",), ("back",), ("down", 2), ("right", 3), ("rise",), ("up", 40)]
        cursor = (1, 3)
        for k, there in enumerate(((1, 8), (1, 16), (2, 16), (2, 15), (4, 15), (4, 18), (3, 18), (0, 18))):
            self.assert_same(place_after(size, band, cursor, moves[:k + 1]), there)
        self.assert_same(place_after(size, band, (2, 20), [("left", 1), ("line",)]), (3, 18))
        self.assert_same(place_after(size, band, (2, 20), [("return",), ("go", 4, 19), ("tab",)]), (4, 19))
        before = list(moves)
        place_after(size, band, cursor, moves)
        self.assert_same(moves, before)

    def test_counts_at_their_edges(self):
        for word, there in (("up", (0, 1)), ("down", (2, 1)), ("left", (1, 0)), ("right", (1, 3))):
            self.assert_same(place_after((3, 4), (0, 2), (1, 1), [(word, 40)]), there)
            for n in (0, 41, 9999, 10000):
                self.refused((3, 4), (0, 2), (1, 1), [(word, n)], 0)

    def test_places_at_their_edges(self):
        self.assert_same(place_after((3, 4), (0, 2), (1, 1), [("go", 2, 3)]), (2, 3))
        for place in ((3, 0), (0, 4), (2, 4), (3, 3), (9998, 9998)):
            self.refused((3, 4), (0, 2), (1, 1), [("go", *place)], 0)

    def test_line_and_rise(self):
        size = (4, 2)
        for band in moves_model.bands_of(size):
            for cursor in moves_model.cursors_of(size):
                row, column = cursor
                if row in (band[1], 3):
                    self.refused(size, band, cursor, [("line",)], 0)
                else:
                    self.assert_same(place_after(size, band, cursor, [("line",)]), (row + 1, min(column, 1)))
                if row in (band[0], 0):
                    self.refused(size, band, cursor, [("rise",)], 0)
                else:
                    self.assert_same(place_after(size, band, cursor, [("rise",)]), (row - 1, min(column, 1)))

    def test_line_and_rise_on_the_way(self):
        self.refused((4, 2), (0, 2), (0, 0), [("line",), ("line",), ("line",)], 2)
        self.refused((4, 2), (0, 3), (1, 0), [("line",), ("line",), ("line",), ("up", 0)], 2)
        self.refused((4, 2), (1, 3), (3, 0), [("rise",), ("rise",), ("rise",)], 2)
        self.refused((4, 2), (2, 3), (1, 2), [("rise",), ("rise",)], 1)

    def test_what_is_no_move(self):
        for bad in NO_MOVES:
            for at in (0, 1, 3):
                moves = [("tab",), ("line",), ("go", 0, 0), ("right", 2)]
                moves[at] = bad
                self.refused((3, 9), (0, 2), (0, 9), moves, at)
                self.refused((3, 9), (0, 2), (0, 9), moves + [("up", 0), ("turn",)], at)

    def test_many_moves(self):
        self.assert_same(place_after((2, 40), (0, 1), (0, 40), [("back",), ("right", 1)] * 1000), (0, 39))

    def test_a_screen_beyond_the_limits_raises_no_error(self):
        self.assertEqual(place_after((13, 45), (0, 12), (12, 45), [("tab",), ("rise",)]), (11, 44))


if __name__ == "__main__":
    unittest.main()
