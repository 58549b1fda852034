"""Points 601 to 606: papers, the check of updates, and the saving."""

import copy
import unittest

from samescreen.checks.papers import check_update, is_bound, saving, tight_paper
from samescreen.deeds.writing import bytes_of_all
from samescreen.errors import OtherSize
from samescreen.screens.deeds import carry_out_all
from samescreen.updates.plans import least_size, plan_deeds, told_update
from tests import moves_model, updates_model
from tests.making import PARTS, PEN, ScreenCase, changed, made
from tests.pairs import drawn_pair, drawn_pairs, wrong_sizes

FEW = ((1, 1), (1, 3), (2, 2), (3, 1), (2, 3))


def first_of(p):
    return (0, p[1], p[2])


class Tight(ScreenCase):
    def test_against_the_model(self):
        for p, q in drawn_pairs(20):
            before = copy.deepcopy((p, q))
            found = tight_paper(p, q)
            if found != updates_model.tight(p, q):
                self.fail("another paper than the model's: " + repr((p, q)))
            self.assertTrue(all(type(number) is int for number in found.values()))
            self.assertEqual(found[first_of(p)], least_size(p, q))
            self.assertIs(is_bound(p, q, found), True)
            self.assert_same((p, q), before)

    def test_an_example(self):
        p, q = made(("ab",), (0, 0)), made(("xb",), (0, 1))
        self.assertEqual(tight_paper(p, q), {
            (0, (0, 0), PEN): 8 + 1,
            (1, (0, 1), 1): 4,
            (2, (0, 1), 1): 4,
            (2, (0, 2), 1): 4 + 1,
        })

    def test_the_greatest_screen(self):
        p, q = drawn_pair(3, (12, 40))
        for other in (q, p):
            paper = tight_paper(p, other)
            self.assertEqual(paper[first_of(p)], least_size(p, other))
            self.assertIs(check_update(p, other, told_update(p, other), paper), True)

    def test_a_new_dict_each_time(self):
        p, q = made(("ab",)), made(("xb",))
        first = tight_paper(p, q)
        wanted = dict(first)
        first.clear()
        self.assertEqual(tight_paper(p, q), wanted)

    def test_other_sizes(self):
        for p, q in wrong_sizes():
            for call in (tight_paper, saving):
                with self.assertRaises(OtherSize) as caught:
                    call(p, q)
                self.assertEqual(caught.exception.at, 0)


class Bounds(ScreenCase):
    def answer(self, p, q, paper):
        """The answer, the same as the model's; what is handed in stays as it is."""
        before = copy.deepcopy((p, q, paper))
        found = is_bound(p, q, paper)
        self.assert_same((p, q), before[:2])
        self.assertEqual(list(paper.items()), list(before[2].items()))
        if found is not updates_model.is_bound(p, q, paper):
            self.fail("another answer than the model's: " + repr((found, p, q, paper)))
        return found

    def test_each_number_changed(self):
        for p, q in drawn_pairs(4, FEW):
            paper = tight_paper(p, q)
            self.assertIs(self.answer(p, q, paper), True)
            for key in paper:
                self.assertIs(self.answer(p, q, {**paper, key: paper[key] + 1}), False)
                self.assertIs(self.answer(p, q, {**paper, key: 2 ** 32 - 1}), False)
                self.answer(p, q, {**paper, key: max(paper[key] - 1, 0)})
                self.assertIs(self.answer(p, q, {**paper, key: -1}), False)
                self.assertIs(self.answer(p, q, {k: paper[k] for k in paper if k != key}), False)

    def test_lesser_numbers_that_keep_the_tests(self):
        for p, q in drawn_pairs(6, FEW):
            paper = tight_paper(p, q)
            self.assertIs(self.answer(p, q, {key: 0 for key in paper}), True)
            self.assertIs(self.answer(p, q, {key: max(paper[key] - 1, 0) for key in paper}), True)
            self.assertIs(self.answer(p, q, {**paper, first_of(p): 0}), True)

    def test_the_first_situation_is_missing(self):
        for p, q in drawn_pairs(3, FEW):
            paper = tight_paper(p, q)
            del paper[first_of(p)]
            self.assertIs(self.answer(p, q, paper), False)
            self.assertIs(self.answer(p, q, {}), False)

    def test_more_situations(self):
        p, q = made(("ab", "cd")), made(("xb", ".."), (1, 2))
        paper = tight_paper(p, q)
        n = 4
        for cursor in moves_model.cursors_of((2, 2)):
            for pen in (0, 3, 15):
                end = updates_model.size_of_deeds(updates_model.end_deeds(p, q, cursor, pen))
                self.assertIs(self.answer(p, q, {**paper, (n, cursor, pen): end}), True)
                self.assertIs(self.answer(p, q, {**paper, (n, cursor, pen): 0}), True)
                if (n, cursor, pen) not in paper:
                    self.assertIs(self.answer(p, q, {**paper, (n, cursor, pen): end + 1}), False)
        # From here the cell can be left, and what is next then is not in the paper.
        self.assertIs(self.answer(p, q, {**paper, (1, (1, 2), 9): 0}), False)

    def test_keys_that_are_no_situations(self):
        p, q = made(("ab", "cd")), made(("xb", "cd"), (1, 2))
        paper = tight_paper(p, q)
        for key in (
            (-1, (0, 0), 0), (5, (0, 0), 0), (2 ** 32, (0, 0), 0), (4, (2, 0), 0), (4, (0, 3), 0), (4, (-1, 0), 0),
            (4, (0, -1), 0), (4, (2 ** 32, 0), 0), (4, (0, 0), 16), (4, (0, 0), -1), (4, (0, 0), 2 ** 32),
            (0, (0, 3), 1), (0, (2, 0), 1), (0, (0, 0), 16),
        ):
            for number in (0, 1):
                self.assertIs(self.answer(p, q, {**paper, key: number}), False, key)
                self.assertIs(self.answer(p, q, {key: number, **paper}), False, key)
        self.assertIs(self.answer(p, q, {**paper, (4, (1, 2), 15): 0, (4, (0, 0), 0): 0}), True)

    def test_other_papers(self):
        p, q = made(("ab", "cd")), made(("xb", "cd"))
        for other in (made(("ab", "cx")), made(("..", "..")), made(("ab", "cd"), (1, 1))):
            paper = tight_paper(p, other)
            self.answer(p, q, paper)
            self.answer(other, q, paper)
        self.assertIs(self.answer(changed(p, cursor=(1, 1)), q, tight_paper(p, q)), False)
        self.assertIs(self.answer(changed(p, pen=0), q, tight_paper(p, q)), False)

    def test_other_sizes(self):
        for p, q in wrong_sizes():
            for paper in ({}, {first_of(p): 0}, {first_of(p): -1}):
                with self.assertRaises(OtherSize) as caught:
                    is_bound(p, q, paper)
                self.assertEqual(caught.exception.at, 0)

    def test_a_pen_beyond_the_limits_raises_no_error(self):
        p, q = made(("ab",)), made(("ab",))
        q[0][0][0] = ("x", 16)
        self.assertIs(is_bound(p, q, tight_paper(p, q)), False)


class Updates(ScreenCase):
    def answer(self, p, q, deeds, paper):
        before = copy.deepcopy((p, q, deeds, paper))
        found = check_update(p, q, deeds, paper)
        self.assert_same((p, q, deeds), before[:3])
        self.assertEqual(paper, before[3])
        return found

    def accepted(self, p, q, deeds, paper):
        with self.subTest(p=p, q=q, deeds=deeds):
            self.assertIs(self.answer(p, q, deeds, paper), True)

    def refused(self, p, q, deeds, paper):
        with self.subTest(p=p, q=q, deeds=deeds):
            self.assertIs(self.answer(p, q, deeds, paper), False)

    def test_the_told_update_with_the_tight_paper(self):
        for p, q in drawn_pairs(20):
            self.accepted(p, q, told_update(p, q), tight_paper(p, q))

    def test_other_least_plans(self):
        for p, q in drawn_pairs(10, FEW):
            paper = tight_paper(p, q)
            for _, deeds in updates_model.all_plans(p, q):
                least = updates_model.size_of_deeds(deeds) == paper[first_of(p)]
                self.assertIs(self.answer(p, q, deeds, paper), least)

    def test_what_is_no_deed(self):
        p, q = made(("ab",), (0, 0)), made(("xb",), (0, 1))
        paper = tight_paper(p, q)
        deeds = told_update(p, q)
        self.assert_same(deeds, [("pen", 1), ("write", "x"), ("pen", PEN)])
        for bad in (("pen", 16), ("pen", True), ("write", "xy"), ("write", "%"), ("turn",), ("",), ("up", 0), ("go", 1)):
            for k in range(3):
                self.refused(p, q, deeds[:k] + [bad] + deeds[k + 1:], paper)
                self.refused(p, q, deeds[:k] + [bad] + deeds[k:], paper)
        self.refused(p, q, [("turn",)], {**paper, first_of(p): 0})

    def test_another_look_with_as_many_bytes(self):
        p, q = made(("ab",), (0, 0)), made(("xb",), (0, 1))
        paper = tight_paper(p, q)
        for deeds in (
            [("pen", 1), ("write", "y"), ("pen", PEN)],
            [("pen", 2), ("write", "x"), ("pen", PEN)],
            [("pen", 1), ("write", "x"), ("pen", PEN + 1)],
            [("pen", 1), ("tab",), ("pen", PEN)],
        ):
            self.assertEqual(len(bytes_of_all(deeds)), paper[first_of(p)])
            self.refused(p, q, deeds, paper)
        p, q = made(("abc",), (0, 2)), made(("abc",), (0, 0))
        self.accepted(p, q, [("return",)], tight_paper(p, q))
        self.refused(p, q, [("back",)], tight_paper(p, q))
        self.refused(p, changed(q, cursor=(0, 1)), [("return",)], tight_paper(p, changed(q, cursor=(0, 1))))

    def test_everything_else_stays(self):
        p = made(("...", "...", "..."), (2, 2), saved=(0, 1, 13))
        q = changed(p, cursor=(0, 1), pen=13)
        paper = tight_paper(p, q)
        # `restore` is no step, so some bytes are left over for other deeds.
        for deeds, part in (
            ([("restore",)], None),
            ([("wrap", True), ("restore",)], None),
            ([("wrap", False), ("restore",)], "wraps"),
            ([("band", 0, 1), ("restore",)], "band"),
            ([("restore",), ("back",), ("save",), ("right", 1)], "saved"),
            ([("line",), ("restore",)], "history"),
        ):
            filled = [("back",)] * (paper[first_of(p)] - len(bytes_of_all(deeds))) + deeds
            self.assertEqual(len(bytes_of_all(filled)), paper[first_of(p)])
            after = carry_out_all(p, filled)
            self.assertEqual(after[:3], q[:3])
            self.assertEqual([name for name, a, b in zip(PARTS, after, q) if a != b], [part] if part else [])
            self.assertIs(self.answer(p, q, filled, paper), part is None)

    def test_the_paper_is_no_bound(self):
        for p, q in drawn_pairs(3, FEW):
            paper = tight_paper(p, q)
            deeds = told_update(p, q)
            for key in paper:
                if key != first_of(p):
                    self.refused(p, q, deeds, {**paper, key: paper[key] + 1})
                    self.refused(p, q, deeds, {**paper, key: -1})
                self.refused(p, q, deeds, {k: paper[k] for k in paper if k != key})
            self.refused(p, q, deeds, {**paper, (0, (0, 99), 0): 0})
            self.refused(p, q, deeds, {})

    def test_a_longer_update(self):
        for p, q in drawn_pairs(4, FEW):
            paper = tight_paper(p, q)
            deeds = told_update(p, q)
            # `wrap` would take a cursor back from behind the last column.
            is_behind = q[1][1] == len(q[0][0])
            for more in ([("pen", q[2])], [("pen", q[2]) if is_behind else ("wrap", p[4])] * 2):
                longer = deeds + more
                self.assertEqual(carry_out_all(p, longer), q[:3] + p[3:])
                self.refused(p, q, longer, paper)
                self.refused(p, q, longer, {**paper, first_of(p): len(bytes_of_all(longer))})
        p, q = made(("ab",), (0, 0)), made(("xb",), (0, 1))
        all_written = plan_deeds(p, q, ["write", "write", "end"])
        self.refused(p, q, all_written, tight_paper(p, q))

    def test_the_size_is_not_the_number_of_the_paper(self):
        for p, q in drawn_pairs(4, FEW):
            paper = tight_paper(p, q)
            number = paper[first_of(p)]
            for lesser in {0, number - 1, number // 2} - {number, -1}:
                self.assertIs(is_bound(p, q, {**paper, first_of(p): lesser}), True)
                self.refused(p, q, told_update(p, q), {**paper, first_of(p): lesser})

    def test_fewer_bytes_than_all_plans(self):
        # `restore` is no step, so this update has fewer bytes than the least plan.
        p = made(("ab", "cd"), (1, 1), saved=(0, 1, 13))
        q = changed(p, cursor=(0, 1), pen=13)
        paper = tight_paper(p, q)
        self.assertGreater(paper[first_of(p)], 2)
        self.refused(p, q, [("restore",)], paper)
        self.accepted(p, q, [("restore",)], {**paper, first_of(p): 2})

    def test_other_sizes(self):
        for p, q in wrong_sizes():
            for deeds in ([], [("turn",)]):
                for paper in ({}, {first_of(p): 0}):
                    with self.assertRaises(OtherSize) as caught:
                        check_update(p, q, deeds, paper)
                    self.assertEqual(caught.exception.at, 0)


class Saving(ScreenCase):
    def test_against_the_model(self):
        for p, q in drawn_pairs(20):
            before = copy.deepcopy((p, q))
            size = 0
            situation = first_of(p)
            while situation is not None:
                word, deeds, situation = updates_model.steps(p, q, situation)[-1]
                self.assertIn(word, ("write", "end"))
                size += updates_model.size_of_deeds(deeds)
            self.assert_same(saving(p, q), size - updates_model.tight(p, q)[first_of(p)])
            self.assert_same((p, q), before)

    def test_examples(self):
        p = made(("abc",), (0, 0))
        self.assert_same(saving(p, made(("xyz",), (0, 3))), 0)
        self.assert_same(saving(p, made(("xyz",), (0, 0))), 0)
        self.assert_same(saving(p, p), 4 + 3 + 1 + 4)
        self.assert_same(saving(p, made(("...",), (0, 3))), 0)
        self.assert_same(saving(made(("abcdef",), (0, 0)), made(("......",), (0, 0))), 6 + 1 - 3)


if __name__ == "__main__":
    unittest.main()
