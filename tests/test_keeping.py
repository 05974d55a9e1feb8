"""[6]: whether a plan can be kept."""

import unittest

from startnow.errors import InvalidPlan, NotKept
from startnow.histories import can_keep
from startnow.plans import is_plan
from startnow.tables import is_paper, is_table, paper, table
from tests.game import can_be_kept
from tests.samples import A, CHAIN, D, E, EMPTY, G, LIMIT, OTHERS, S, T, made_plan, notice_plan, paths, with_part

# Pairs of a plan that can just be kept and the same with one number tighter.
TASK = (("a", "b", 1, 3),)
EDGES = {
    "bounds without a task": ((4, ("a", "b"), (("b", "a", -4),), ()), (2, 0, 2)),
    "two bounds without a task": ((9, ("a", "b"), (("a", "b", 3), ("b", "a", -3)), ()), (2, 0, 2)),
    "latest without a task": ((3, ("a", "b"), (("b", "a", -3),), ()), (0,)),
    "a task that may be short": ((10, ("a", "b"), (("b", "a", -1),), TASK), (2, 0, 2)),
    "a task that may be long": ((10, ("a", "b"), (("a", "b", 3),), TASK), (2, 0, 2)),
    "a start ahead of an end": ((10, ("a", "b", "c"), (("b", "c", -1), ("c", "b", 3)), TASK), (2, 1, 2)),
    "a start behind an end": ((10, ("a", "b", "c"), (("b", "c", 0), ("c", "b", 0)), TASK), (2, 0, 2)),
    "two tasks of one begin": ((8, ("b", "h", "l"), (("h", "l", 1),), (("b", "h", 2, 3), ("b", "l", 1, 3))), (2, 0, 2)),
    "latest behind a chain": ((7, ("a", "b", "c", "d"), (), CHAIN[3]), (0,)),
    "a bound over a chain": (with_part(CHAIN, (2, 0, 2), -9), (2, 0, 2)),
    "a bound with go": ((10, ("a",), (("a", "go", -3), ("go", "a", 3)), ()), (2, 1, 2)),
    "a bound to go": ((10, ("a", "b"), (("a", "go", -7),), TASK), (2, 0, 2)),
    "a bound from go": ((10, ("a", "b"), (("go", "b", 3),), TASK), (2, 0, 2)),
    "latest 0": ((0, ("a", "b"), (("a", "b", 0), ("b", "a", 0)), ()), (2, 1, 2)),
    "latest 1": ((1, ("a", "b"), (), (("a", "b", 1, 1),)), (0,)),
}


class Keeping(unittest.TestCase):
    def assert_kept(self, plan, expected):
        self.assertIs(can_keep(plan), expected)
        told = paper(plan)
        self.assertEqual(told is None, expected)
        if expected:
            self.assertTrue(is_table(plan, table(plan)))
        else:
            self.assertTrue(is_paper(plan, told))
            with self.assertRaises(NotKept):
                table(plan)

    def test_the_examples(self):
        self.assertIs(can_keep(A), True)
        self.assertIs(can_keep(D), False)
        self.assertIs(can_keep(G), False)
        for plan, expected in ((E, False), (S, True), (T, True), (CHAIN, True), (LIMIT, True), (EMPTY, True)):
            self.assert_kept(plan, expected)

    def test_just_kept_and_one_number_tighter(self):
        for name, (plan, path) in EDGES.items():
            with self.subTest(name):
                tighter = with_part(plan, path, (plan[0] if path == (0,) else plan[2][path[1]][2]) - 1)
                self.assert_kept(plan, True)
                self.assertTrue(can_be_kept(plan))
                self.assert_kept(tighter, False)
                self.assertFalse(can_be_kept(tighter))

    def test_no_events_and_latest_0(self):
        for plan in (EMPTY, (7, (), (), ()), (0, ("a",), (), ()), (0, ("a", "b"), (("a", "b", 0),), ())):
            self.assert_kept(plan, True)
        for plan in ((0, ("a",), (("a", "go", -1),), ()), (0, ("a", "b"), (), (("a", "b", 1, 1),))):
            self.assert_kept(plan, False)

    def test_small_plans_against_the_player(self):
        kept = 0
        for number in range(2000, 2400):
            plan = made_plan(number, events=4, bounds=6, tasks=3, latest=number % 9, slack=1, time=4)
            expected = can_be_kept(plan)
            kept += expected
            with self.subTest(plan=plan):
                self.assert_kept(plan, expected)
        self.assertGreater(kept, 100)
        self.assertLess(kept, 300)

    def test_plans_with_starts_ahead_of_ends_against_the_player(self):
        for number in range(150):
            plan = notice_plan(number)
            with self.subTest(plan=plan):
                self.assert_kept(plan, can_be_kept(plan))

    def test_what_is_no_plan(self):
        for value in OTHERS:
            with self.assertRaises(InvalidPlan):
                can_keep(value)
        for path in paths(A):
            for part in (None, True, -1, "", "go", [], ("a",), 1.5):
                changed = with_part(A, path, part)
                if not is_plan(changed):
                    with self.subTest(changed=changed), self.assertRaises(InvalidPlan):
                        can_keep(changed)


if __name__ == "__main__":
    unittest.main()
