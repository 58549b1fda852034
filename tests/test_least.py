"""Points 403 to 405: the told least moves, their map, and the check of both."""

import copy
import unittest

from samescreen.deeds.writing import bytes_of_all
from samescreen.moves.least import check_moves, least_moves, move_map
from samescreen.moves.moves import place_after
from tests import moves_model
from tests.making import ScreenCase
from tests.test_moves import NO_MOVES

SMALL = tuple((rows, columns) for rows in (1, 2, 3) for columns in (1, 2, 3, 4))
WIDE = ((1, 9), (1, 12), (1, 40), (2, 17), (12, 1), (11, 3))
GREATEST = (((0, 11), (0, 0)), ((3, 8), (8, 40)), ((11, 11), (10, 21)))


def cases():
    """Sizes, bands and cursors: all of them for small screens."""
    for size in SMALL:
        for band in moves_model.bands_of(size):
            for cursor in moves_model.cursors_of(size):
                yield size, band, cursor
    for size in WIDE:
        for band in moves_model.bands_of(size)[::7]:
            for cursor in moves_model.cursors_of(size)[::4]:
                yield size, band, cursor
    for band, cursor in GREATEST:
        yield (12, 40), band, cursor


class Least(ScreenCase):
    def test_against_a_search(self):
        for size, band, cursor in cases():
            wanted = moves_model.told(size, band, cursor)
            for place in moves_model.places_of(size)[::1 if size in SMALL else 7]:
                found = least_moves(size, band, cursor, place)
                length, count, data, moves = wanted[place]
                if found != moves:
                    self.fail("other moves: " + repr((size, band, cursor, place, found, moves)))
                self.assertEqual(len(found), count)
                self.assertEqual(bytes_of_all(found), data)
                self.assertEqual(len(data), length)

    def gives(self, size, band, cursor, place, *moves):
        with self.subTest(size=size, band=band, cursor=cursor, place=place):
            found = least_moves(size, band, cursor, place)
            self.assert_same(found, list(moves))
            found.append(("tab",))
            self.assert_same(least_moves(size, band, cursor, place), list(moves))

    def test_the_cursor_is_there(self):
        for place in moves_model.places_of((3, 4)):
            self.gives((3, 4), (0, 1), place, place)

    def test_least_size(self):
        whole = (0, 11)
        self.gives((12, 40), whole, (5, 5), (5, 4), ("back",))
        self.gives((12, 40), whole, (5, 5), (6, 5), ("line",))
        self.gives((12, 40), whole, (5, 5), (4, 5), ("rise",))
        self.gives((12, 40), whole, (5, 5), (5, 6), ("right", 1))
        self.gives((12, 40), whole, (5, 6), (5, 7), ("tab",), ("back",))
        self.gives((12, 40), whole, (5, 3), (5, 15), ("tab",), ("tab",), ("back",))
        self.gives((12, 40), whole, (5, 38), (5, 39), ("tab",))
        self.gives((12, 40), whole, (7, 30), (0, 0), ("go", 0, 0))
        self.gives((12, 40), whole, (11, 30), (9, 8), ("go", 9, 0), ("tab",))

    def test_from_edge_to_edge(self):
        self.gives((1, 40), (0, 0), (0, 0), (0, 39), ("right", 39))
        for size in [(1, columns) for columns in range(2, 41)] + [(rows, 1) for rows in range(2, 13)]:
            last = (size[0] - 1, size[1] - 1)
            for cursor, place in (((0, 0), last), (last, (0, 0))):
                wanted = moves_model.told(size, (0, 0), cursor)[place][3]
                self.gives(size, (0, 0), cursor, place, *wanted)

    def test_from_behind_the_last_column(self):
        whole = (0, 2)
        self.gives((3, 9), whole, (1, 9), (1, 8), ("tab",))
        self.gives((3, 9), whole, (1, 9), (1, 7), ("back",))
        self.gives((3, 9), whole, (1, 9), (2, 8), ("line",))
        self.gives((3, 9), whole, (1, 9), (0, 8), ("rise",))
        self.gives((3, 9), whole, (1, 9), (2, 0), ("line",), ("return",))
        self.gives((3, 1), whole, (1, 1), (1, 0), ("back",))

    def test_the_fewest_moves(self):
        self.gives((2, 40), (0, 1), (0, 38), (0, 35), ("back",), ("back",), ("back",))
        self.gives((2, 40), (0, 1), (0, 38), (0, 34), ("left", 4))
        self.gives((2, 40), (0, 1), (0, 5), (1, 1), ("line",), ("left", 4))
        self.gives((2, 40), (0, 1), (0, 5), (0, 1), ("left", 4))

    def test_the_first_bytes(self):
        self.gives((3, 40), (0, 2), (0, 6), (2, 4), ("back",), ("back",), ("line",), ("line",))
        self.gives((3, 40), (0, 2), (0, 6), (1, 8), ("tab",), ("line",))
        self.gives((3, 40), (0, 2), (0, 6), (1, 0), ("line",), ("return",))
        self.gives((3, 40), (0, 2), (1, 20), (0, 0), ("go", 0, 0))
        self.gives((3, 40), (0, 2), (2, 2), (1, 0), ("return",), ("rise",))

    def test_the_band_counts(self):
        self.gives((3, 9), (0, 2), (1, 5), (2, 5), ("line",))
        self.gives((3, 9), (0, 1), (1, 5), (2, 5), ("down", 1))
        self.gives((3, 9), (0, 2), (1, 5), (0, 5), ("rise",))
        self.gives((3, 9), (1, 2), (1, 5), (0, 5), ("up", 1))

    def test_a_screen_beyond_the_limits_raises_no_error(self):
        self.assertEqual(least_moves((13, 90), (0, 12), (12, 90), (12, 89)), [("tab",)])
        self.assertEqual(move_map((13, 90), (0, 12), (12, 90))[(12, 3)], 5)


class Maps(ScreenCase):
    def test_against_a_search(self):
        for size, band, cursor in cases():
            found = move_map(size, band, cursor)
            self.assertEqual(found, moves_model.least_numbers(size, band, cursor))
            self.assertEqual(set(found), {cursor, *moves_model.places_of(size)})
            self.assertTrue(all(type(number) is int for number in found.values()))

    def test_the_cursor_is_a_key(self):
        self.assertEqual(move_map((1, 2), (0, 0), (0, 2)), {(0, 2): 0, (0, 0): 1, (0, 1): 1})
        self.assertEqual(move_map((1, 2), (0, 0), (0, 1)), {(0, 0): 1, (0, 1): 0})
        self.assertEqual(move_map((2, 1), (0, 1), (1, 0)), {(0, 0): 2, (1, 0): 0})

    def test_a_new_dict_each_time(self):
        first = move_map((2, 2), (0, 1), (0, 2))
        wanted = dict(first)
        first.clear()
        self.assertEqual(move_map((2, 2), (0, 1), (0, 2)), wanted)


class Checks(ScreenCase):
    def check(self, *case):
        """The answer, the same as the model's; what is handed in stays as it is."""
        before = copy.deepcopy(case)
        found = check_moves(*case)
        self.assert_same(case[:5], before[:5])
        self.assertEqual(case[5], before[5])
        self.assertEqual(list(case[5]), list(before[5]))
        if found is not moves_model.proves(*case):
            self.fail("another answer than the model's: " + repr((found, case)))
        return found

    def refused(self, *case):
        with self.subTest(case=case):
            self.assertIs(self.check(*case), False)

    def test_the_least_moves_with_the_map(self):
        for size, band, cursor in cases():
            if size == (12, 40):
                continue
            numbers = move_map(size, band, cursor)
            for place in moves_model.places_of(size)[::5 if size in SMALL else 13]:
                moves = least_moves(size, band, cursor, place)
                self.assertEqual(place_after(size, band, cursor, moves), place)
                self.assertIs(check_moves(size, band, cursor, place, moves, numbers), True)

    def test_the_greatest_screen(self):
        size = (12, 40)
        for band, cursor in GREATEST:
            numbers = move_map(size, band, cursor)
            for place in ((0, 0), (7, 7), (11, 39)):
                moves = least_moves(size, band, cursor, place)
                self.assertIs(check_moves(size, band, cursor, place, moves, numbers), True)
                self.assertIs(check_moves(size, band, cursor, place, moves, {**numbers, (9, 33): 9}), False)

    def test_other_least_moves(self):
        size, band = (3, 20), (0, 2)
        numbers = move_map(size, band, (1, 5))
        for moves in ([("line",), ("return",)], [("return",), ("line",)]):
            self.assertIs(self.check(size, band, (1, 5), (2, 0), moves, numbers), True)
        for moves in ([("back",)] * 4, [("left", 4)]):
            self.assertIs(self.check(size, band, (1, 19), (1, 15), moves, move_map(size, band, (1, 19))), True)

    def test_each_number_changed(self):
        for size, band, cursor in (((2, 3), (0, 1), (0, 1)), ((2, 9), (0, 0), (1, 9)), ((1, 12), (0, 0), (0, 12))):
            numbers = move_map(size, band, cursor)
            for place in ((0, 0), (size[0] - 1, size[1] - 1)):
                moves = least_moves(size, band, cursor, place)
                for key in numbers:
                    for number in (numbers[key] + 1, numbers[key] + 1000, 2 ** 32 - 1, numbers[key] - 1, 0, -1, -2 ** 40):
                        found = self.check(size, band, cursor, place, moves, {**numbers, key: number})
                        if number > numbers[key] or number == -2 ** 40:
                            self.assertIs(found, False)
                for key in numbers:
                    self.refused(size, band, cursor, place, moves, {k: numbers[k] for k in numbers if k != key})

    def test_a_number_that_is_too_small(self):
        size, band, cursor = (2, 9), (0, 1), (0, 0)
        numbers = move_map(size, band, cursor)
        self.refused(size, band, cursor, (0, 8), [("tab",)], {**numbers, (0, 8): 0})
        self.refused(size, band, cursor, (0, 0), [], {**numbers, (1, 8): 0})

    def test_lesser_numbers_that_keep_the_tests(self):
        size, band, cursor = (1, 3), (0, 0), (0, 0)
        numbers = move_map(size, band, cursor)
        self.assertEqual(numbers, {(0, 0): 0, (0, 1): 2, (0, 2): 1})
        lesser = {(0, 0): 0, (0, 1): 1, (0, 2): 1}
        self.assertIs(self.check(size, band, cursor, (0, 2), [("tab",)], lesser), True)
        self.refused(size, band, cursor, (0, 1), [("tab",), ("back",)], lesser)

    def test_numbers_below_0(self):
        size, band, cursor = (1, 3), (0, 0), (0, 0)
        lesser = {(0, 0): 0, (0, 1): 0, (0, 2): 0}
        self.assertIs(self.check(size, band, cursor, (0, 0), [], lesser), True)
        self.assertIs(self.check(size, band, cursor, (0, 0), [], {**lesser, (0, 2): -1}), True)
        self.assertIs(self.check(size, band, cursor, (0, 0), [], {**lesser, (0, 1): -1, (0, 2): -1}), True)
        self.refused(size, band, cursor, (0, 0), [], {**lesser, (0, 2): -2})
        self.refused(size, band, cursor, (0, 0), [], {**lesser, (0, 0): -1})
        self.refused(size, band, cursor, (0, 2), [("tab",)], {**lesser, (0, 2): -1})
        self.refused(size, band, cursor, (0, 2), [], {**lesser, (0, 2): -1})

    def test_numbers_below_0_on_the_least_screens(self):
        self.assertIs(self.check((1, 2), (0, 0), (0, 0), (0, 0), [], {(0, 0): 0, (0, 1): -1}), True)
        self.refused((1, 2), (0, 0), (0, 0), (0, 0), [], {(0, 0): 0, (0, 1): -2})
        self.refused((1, 2), (0, 0), (0, 0), (0, 1), [("tab",)], {(0, 0): 0, (0, 1): -1})
        # No move leads behind the last column; so there the size alone speaks against -1.
        self.refused((1, 1), (0, 0), (0, 1), (0, 0), [("back",)], {(0, 1): 0, (0, 0): -1})
        self.assertIs(self.check((1, 1), (0, 0), (0, 1), (0, 0), [("back",)], {(0, 1): 0, (0, 0): 1}), True)

    def test_numbers_that_count_back_from_the_place(self):
        below = 0
        for size in ((1, 3), (2, 2), (3, 2), (1, 12), (2, 9), (12, 1)):
            band, places = (0, size[0] - 1), moves_model.places_of(size)
            for cursor in moves_model.cursors_of(size)[::5]:
                maps = {here: move_map(size, band, here) for here in {cursor, *places}}
                for place in places[::3]:
                    # Where it is further to the place than from the cursor, the number is below 0.
                    numbers = {here: maps[cursor][place] - maps[here][place] for here in maps}
                    below += min(numbers.values()) < 0
                    moves = least_moves(size, band, cursor, place)
                    self.assertIs(self.check(size, band, cursor, place, moves, numbers), True)
                    for here in numbers:
                        self.refused(size, band, cursor, place, moves, {**numbers, here: numbers[here] - 1})
        self.assertGreater(below, 0)

    def test_numbers_below_0_on_the_greatest_screen(self):
        size, cursor = (12, 40), (11, 39)
        # A move of one byte leads to the cursor from (11, 38), but none does from (3, 3).
        numbers = {here: 0 if here == cursor else -1 for here in moves_model.places_of(size)}
        self.assertIs(check_moves(size, (0, 11), cursor, cursor, [], numbers), True)
        self.assertIs(check_moves(size, (0, 11), cursor, cursor, [], {**numbers, (3, 3): -2}), True)
        self.assertIs(check_moves(size, (0, 11), cursor, cursor, [], {**numbers, (11, 38): -2}), False)
        self.assertIs(check_moves(size, (0, 11), cursor, (11, 38), [("back",)], numbers), False)

    def test_the_number_of_the_cursor(self):
        size, band = (2, 3), (0, 1)
        for cursor in ((0, 1), (1, 3)):
            numbers = move_map(size, band, cursor)
            moves = least_moves(size, band, cursor, (0, 0))
            self.assertIs(self.check(size, band, cursor, (0, 0), moves, numbers), True)
            self.refused(size, band, cursor, (0, 0), moves, {key: numbers[key] for key in numbers if key != cursor})
            for number in (1, 2, -1):
                self.refused(size, band, cursor, (0, 0), moves, {**numbers, cursor: number})
            self.refused(size, band, cursor, (0, 0), moves, {key: numbers[key] + 1 for key in numbers})

    def test_keys_that_are_none(self):
        size, band = (2, 3), (0, 1)
        for cursor in ((0, 1), (1, 3)):
            numbers = move_map(size, band, cursor)
            moves = least_moves(size, band, cursor, (0, 0))
            for key in ((0, 3), (2, 0), (2, 3), (0, -1), (-1, 0), (2 ** 32, 0), (0, 40)):
                for number in (0, 5, 8):
                    self.refused(size, band, cursor, (0, 0), moves, {**numbers, key: number})
                for missing in numbers:
                    swapped = {key if old == missing else old: numbers[old] for old in numbers}
                    self.refused(size, band, cursor, (0, 0), moves, swapped)
            self.refused(size, band, cursor, (0, 0), moves, {})

    def test_another_cursor(self):
        size, band = (2, 3), (0, 1)
        numbers = move_map(size, band, (0, 1))
        self.refused(size, band, (1, 1), (0, 0), [("go", 0, 0)], numbers)
        self.refused(size, band, (0, 3), (0, 0), [("return",)], numbers)
        self.refused(size, band, (0, 1), (0, 2), [("tab",)], move_map(size, band, (0, 3)))

    def test_other_moves(self):
        size, band, cursor, place = (4, 20), (0, 3), (0, 5), (2, 7)
        numbers = move_map(size, band, cursor)
        moves = least_moves(size, band, cursor, place)
        self.assert_same(moves, [("tab",), ("back",), ("line",), ("line",)])
        self.assertIs(self.check(size, band, cursor, place, moves, numbers), True)
        for k in range(len(moves)):
            self.refused(size, band, cursor, place, moves[:k] + moves[k + 1:], numbers)
            self.refused(size, band, cursor, place, moves[:k + 1] + moves[k:], numbers)
            for other in (("right", 2), ("up", 1), ("go", 2, 7), ("down", 2), *NO_MOVES):
                self.refused(size, band, cursor, place, moves[:k] + [other] + moves[k + 1:], numbers)
        self.refused(size, band, cursor, place, moves + [("up", 0)], numbers)
        self.refused(size, band, cursor, place, moves + [("go", 2, 7)], numbers)
        self.refused(size, band, cursor, place, [], numbers)

    def test_moves_that_are_not_the_least(self):
        size, band, cursor, place = (4, 20), (0, 3), (0, 5), (2, 7)
        numbers = move_map(size, band, cursor)
        for moves in ([("go", 2, 7)], [("down", 2), ("right", 2)], [("line",), ("line",), ("right", 1), ("right", 1)]):
            self.assertEqual(place_after(size, band, cursor, moves), place)
            self.refused(size, band, cursor, place, moves, numbers)
            length = len(bytes_of_all(moves))
            self.refused(size, band, cursor, place, moves, {**numbers, place: length})

    def test_moves_where_they_are_none(self):
        size, band = (3, 2), (1, 1)
        for cursor, move in (((1, 0), ("line",)), ((2, 0), ("line",)), ((0, 1), ("rise",)), ((1, 2), ("rise",))):
            numbers = move_map(size, band, cursor)
            for place in moves_model.places_of(size):
                self.refused(size, band, cursor, place, [move], {**numbers, place: 1})

    def test_another_place(self):
        size, band, cursor = (2, 9), (0, 1), (0, 3)
        numbers = move_map(size, band, cursor)
        for place in moves_model.places_of(size):
            for other in moves_model.places_of(size):
                found = self.check(size, band, cursor, other, least_moves(size, band, cursor, place), numbers)
                self.assertIs(found, place == other)

    def test_the_band_counts(self):
        size, cursor, place = (3, 2), (1, 0), (2, 0)
        numbers = move_map(size, (0, 2), cursor)
        self.assertIs(self.check(size, (0, 2), cursor, place, [("line",)], numbers), True)
        self.refused(size, (0, 1), cursor, place, [("line",)], numbers)


if __name__ == "__main__":
    unittest.main()
