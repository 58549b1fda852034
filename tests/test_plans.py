"""Points 501, 506 and 507: plans, their least size, and the one that is told."""

import copy
import unittest

from samescreen.deeds.writing import bytes_of_all
from samescreen.errors import NoStep, OtherSize
from samescreen.reading.reader import read, rest_of
from samescreen.screens.deeds import carry_out_all
from samescreen.updates.plans import least_size, plan_deeds, told_plan, told_update
from tests import updates_model
from tests.making import PEN, ScreenCase, made
from tests.pairs import drawn_pair, drawn_pairs, wrong_sizes
from tests.test_against_model import drawn_numbers

# Sizes for which all plans can be listed, and further ones.
FEW_CELLS = ((1, 1), (1, 2), (2, 1), (1, 4), (2, 2), (3, 1), (2, 3), (1, 6))
MORE_CELLS = ((1, 9), (1, 12), (2, 6), (3, 4), (3, 3))
WORDS = ("leave", "clear", "clear_row", "write", "end")


def drawn_words(p, q, seed):
    """The words of some plan."""
    numbers = drawn_numbers(seed)
    situation = (0, p[1], p[2])
    words = []
    while situation is not None:
        found = updates_model.steps(p, q, situation)
        word, _, situation = found[next(numbers) % len(found)]
        words.append(word)
    return words


def deeds_of_words(p, q, words):
    situation = (0, p[1], p[2])
    deeds = []
    for word in words:
        step, = [step for step in updates_model.steps(p, q, situation) if step[0] == word]
        deeds.extend(step[1])
        situation = step[2]
    return deeds


class PlansCase(ScreenCase):
    def assert_update(self, p, q, deeds):
        """The deeds give P the look of Q, change nothing else, and are read as they are."""
        after = carry_out_all(p, deeds)
        self.assert_same(after, q[:3] + p[3:])
        data = bytes_of_all(deeds)
        self.assert_same(read(data), deeds)
        self.assertEqual(rest_of(data), [])

    def assert_told(self, p, q, size, words, deeds):
        before = copy.deepcopy((p, q))
        found = (least_size(p, q), told_plan(p, q), told_update(p, q))
        if found != (size, words, deeds):
            self.fail("another plan than the model's: " + repr((p, q, found, size, words, deeds)))
        self.assert_same(found, (size, words, deeds))
        self.assert_same((p, q), before)
        self.assert_update(p, q, deeds)
        self.assertEqual(len(bytes_of_all(deeds)), size)


class AgainstAllPlans(PlansCase):
    def test_all_plans_listed(self):
        for p, q in drawn_pairs(40, FEW_CELLS):
            plans = list(updates_model.all_plans(p, q))
            sizes = [updates_model.size_of_deeds(deeds) for _, deeds in plans]
            # The plans are listed in the order of their steps, so the first one is the told one.
            words, deeds = plans[sizes.index(min(sizes))]
            self.assert_told(p, q, min(sizes), words, deeds)

    def test_more_cells(self):
        for p, q in drawn_pairs(30, MORE_CELLS):
            size, words, deeds = updates_model.least_rests(p, q)[(0, p[1], p[2])]
            self.assert_told(p, q, size, words, deeds)

    def test_every_plan_is_an_update(self):
        for p, q in drawn_pairs(8, FEW_CELLS):
            for words, deeds in updates_model.all_plans(p, q):
                self.assert_same(plan_deeds(p, q, words), deeds)
                self.assert_update(p, q, deeds)

    def test_the_two_reckonings_agree(self):
        for p, q in drawn_pairs(10, FEW_CELLS):
            sizes = [updates_model.size_of_deeds(deeds) for _, deeds in updates_model.all_plans(p, q)]
            self.assertEqual(updates_model.tight(p, q)[(0, p[1], p[2])], min(sizes))


class Examples(PlansCase):
    def gives(self, p, q, words, deeds):
        with self.subTest(p=p, q=q):
            self.assert_told(p, q, len(bytes_of_all(deeds)), words, deeds)

    def test_nothing_to_do(self):
        screen = made(("ab", "cd"), (1, 2))
        self.gives(screen, screen, ["leave"] * 4 + ["end"], [])

    def test_only_the_cursor_and_the_pen(self):
        p, q = made(("ab", "cd"), (1, 1)), made(("ab", "cd"), (0, 0))
        self.gives(p, q, ["leave"] * 4 + ["end"], [("go", 0, 0)])
        q = q[:2] + (0,) + q[3:]
        self.gives(p, q, ["leave"] * 4 + ["end"], [("go", 0, 0), ("pen", 0)])

    def test_one_cell(self):
        p, q = made(("abc",), (0, 1)), made(("axc",), (0, 2))
        self.gives(p, q, ["leave", "write", "leave", "end"], [("pen", 1), ("write", "x"), ("pen", PEN)])

    def test_clear_before_clear_row(self):
        p, q = made(("abc", "def"), (0, 0)), made(("...", "..."), (0, 0))
        self.gives(p, q, ["clear", "end"], [("clear", 0)])
        p, q = made(("abc",), (0, 0)), made(("...",), (0, 0))
        self.gives(p, q, ["clear", "end"], [("clear", 0)])
        p, q = made(("abc", "def"), (0, 0)), made(("...", "def"), (0, 0))
        self.gives(p, q, ["clear_row", "leave", "leave", "leave", "end"], [("clear_row", 0)])

    def test_leave_before_clear(self):
        p, q = made((".bcd",), (0, 1)), made(("....",), (0, 1))
        self.gives(p, q, ["leave", "clear", "end"], [("clear", 0)])

    def test_write_before_clear(self):
        p, q = made((".bcd",), (0, 0)), made(("....",), (0, 1))
        self.gives(p, q, ["write", "clear", "end"], [("write", " "), ("clear", 0)])

    def test_writing_on_is_shorter_than_moving(self):
        p, q = made(("abcabc",), (0, 0)), made(("xbxabc",), (0, 3))
        words = ["write", "write", "write", "leave", "leave", "leave", "end"]
        self.gives(p, q, words, [("pen", 1), ("write", "x"), ("write", "b"), ("write", "x"), ("pen", PEN)])

    def test_of_several_the_first_step(self):
        ties = {word: 0 for word in WORDS}
        for p, q in drawn_pairs(60, FEW_CELLS):
            plans = list(updates_model.all_plans(p, q))
            least = min(updates_model.size_of_deeds(deeds) for _, deeds in plans)
            best = [words for words, deeds in plans if updates_model.size_of_deeds(deeds) == least]
            told = told_plan(p, q)
            for other in best[1:]:
                first, second = next((a, b) for a, b in zip(told, other) if a != b)
                self.assertLess(WORDS.index(first), WORDS.index(second))
                ties[first] += 1
        self.assertTrue(ties["leave"] and ties["clear"] and ties["clear_row"], ties)

    def test_behind_the_last_column(self):
        p, q = made(("ab", "cd"), (0, 0)), made(("ab", "cd"), (0, 2))
        deeds = [("tab",), ("pen", 1), ("write", "b"), ("pen", PEN)]
        self.gives(p, q, ["leave"] * 4 + ["end"], deeds)
        q = made(("ab", "cx"), (1, 2))
        deeds = [("tab",), ("line",), ("pen", 1), ("write", "x"), ("pen", PEN)]
        self.gives(p, q, ["leave"] * 3 + ["write", "end"], deeds)

    def test_the_greatest_screen(self):
        for seed in (1, 2):
            p, q = drawn_pair(seed, (12, 40))
            deeds = told_update(p, q)
            self.assert_update(p, q, deeds)
            self.assertEqual(len(bytes_of_all(deeds)), least_size(p, q))
            self.assert_same(plan_deeds(p, q, told_plan(p, q)), deeds)
            self.assert_same(told_update(p, p), [])
            self.assertEqual(told_plan(p, p), ["leave"] * 480 + ["end"])

    def test_screens_beyond_the_limits_raise_no_error(self):
        texts = ("abcdefghi" * 5,) * 13
        p, q = made(texts, (12, 45)), made(texts, (0, 45))
        q[0][0][44] = ("x", 16)
        self.assertEqual(told_update(p, q)[-3:], [("pen", 16), ("write", "x"), ("pen", PEN)])
        self.assertEqual(plan_deeds(p, q, told_plan(p, q)), told_update(p, q))
        self.assertEqual(least_size(p, p), 0)


class PlanDeeds(PlansCase):
    def refused(self, p, q, words, at):
        before = copy.deepcopy((p, q, words))
        with self.subTest(p=p, q=q, words=words):
            with self.assertRaises(NoStep) as caught:
                plan_deeds(p, q, words)
            self.assertEqual(caught.exception.at, at)
            self.assert_same((p, q, words), before)

    def test_the_told_plan(self):
        for p, q in drawn_pairs(10):
            self.assert_same(plan_deeds(p, q, told_plan(p, q)), told_update(p, q))

    def test_other_plans(self):
        for seed, (p, q) in enumerate(drawn_pairs(15)):
            words = drawn_words(p, q, seed)
            before = list(words)
            deeds = plan_deeds(p, q, words)
            self.assert_same(deeds, deeds_of_words(p, q, words))
            self.assert_same(words, before)
            self.assert_update(p, q, deeds)

    def test_the_end_is_missing(self):
        for seed, (p, q) in enumerate(drawn_pairs(4)):
            words = drawn_words(p, q, seed)
            for k in range(len(words)):
                self.refused(p, q, words[:k], k)

    def test_no_words(self):
        for p, q in drawn_pairs(1):
            self.refused(p, q, [], 0)

    def test_words_behind_the_end(self):
        p, q = made(("ab",)), made(("ax",))
        for word in WORDS + ("", "turn"):
            self.refused(p, q, ["write", "write", "end", word], 3)
            self.refused(p, q, ["write", "write", "end", word, "end"], 3)

    def test_words_that_are_not_possible_there(self):
        for seed, (p, q) in enumerate(drawn_pairs(3)):
            words = drawn_words(p, q, seed)
            situation = (0, p[1], p[2])
            for k, told in enumerate(words):
                found = {word: after for word, _, after in updates_model.steps(p, q, situation)}
                for word in WORDS + ("", "turn", "Write", "clear_row ", "wr"):
                    if word not in found:
                        self.refused(p, q, words[:k] + [word] + words[k + 1:], k)
                        self.refused(p, q, words[:k] + [word], k)
                situation = found[told]

    def test_the_first_one_counts(self):
        p, q = made(("ab",)), made(("ax",))
        self.refused(p, q, ["write", "leave", "turn", "end", "end"], 1)
        self.refused(p, q, ["end", "turn"], 0)
        self.refused(p, q, ["write", "write", "write"], 2)
        self.refused(p, q, ["clear", "write", "end"], 0)

    def test_a_step_over_several_cells(self):
        p, q = made(("ab", "cd")), made(("..", ".."))
        self.assert_same(plan_deeds(p, q, ["clear", "end"]), [("clear", 0)])
        deeds = [("clear_row", 0), ("line",), ("clear_row", 0), ("rise",)]
        self.assert_same(plan_deeds(p, q, ["clear_row", "clear_row", "end"]), deeds)
        self.refused(p, q, ["clear", "write", "end"], 1)
        self.refused(p, q, ["clear_row", "end"], 1)
        self.refused(p, q, ["clear_row", "clear_row", "clear_row", "end"], 2)


class WrongAndNew(PlansCase):
    def test_other_sizes(self):
        for p, q in wrong_sizes():
            before = copy.deepcopy((p, q))
            for call in (least_size, told_plan, told_update):
                with self.assertRaises(OtherSize) as caught:
                    call(p, q)
                self.assertEqual(caught.exception.at, 0)
            for words in ([], ["turn"], ["end", "end"], ["write", "write", "end"]):
                with self.assertRaises(OtherSize) as caught:
                    plan_deeds(p, q, words)
                self.assertEqual(caught.exception.at, 0)
            self.assert_same((p, q), before)

    def test_what_is_returned_is_new(self):
        p, q = made(("ab", "..")), made(("a.", ".."), (1, 2))
        for call in (told_plan, told_update, lambda p, q: plan_deeds(p, q, ["write"] * 4 + ["end"])):
            first = call(p, q)
            wanted = list(first)
            first.append("x")
            first[0] = "y"
            self.assert_same(call(p, q), wanted)


if __name__ == "__main__":
    unittest.main()
