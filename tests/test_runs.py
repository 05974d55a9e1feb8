"""[5]: what is a run, and which bounds it breaks."""

import unittest

from startnow.errors import InvalidPlan, InvalidRun
from startnow.plans import broken, is_run
from tests.samples import A, CHAIN, D, EMPTY, LIMIT, OTHERS, with_part

GOES = (
    10,
    ("a", "b", "c"),
    (("a", "go", -2), ("b", "a", 0), ("go", "a", 10), ("go", "b", 8)),
    (("a", "c", 2, 4),),
)


class Runs(unittest.TestCase):
    def assert_run(self, plan, value, expected):
        with self.subTest(plan=plan, value=value):
            self.assertIs(is_run(plan, value), expected)
            if not expected:
                with self.assertRaises(InvalidRun):
                    broken(plan, value)

    def test_times_of_tasks(self):
        for time, expected in ((0, False), (1, True), (2, True), (3, True), (4, False), (-1, False)):
            self.assert_run(A, (5, 5 + time, 0), expected)
        for run, expected in (((0, 1, 2, 4), True), ((0, 2, 5, 7), True), ((9, 10, 13, 15), True),
                              ((0, 3, 4, 6), False), ((0, 1, 5, 7), False), ((0, 1, 2, 5), False),
                              ((0, 1, 2, 3), False), ((0, 0, 1, 3), False)):
            self.assert_run(CHAIN, run, expected)

    def test_each_task_of_several(self):
        run = (8, 17, 10, 9, 14, 20, 21)
        self.assert_run(LIMIT, run, True)
        for place, moment in ((1, 18), (1, 10), (2, 9), (2, 16), (4, 13), (4, 17)):
            self.assert_run(LIMIT, with_part(run, (place,), moment), False)

    def test_moments(self):
        for run in ((0, 1, 0), (0, 1, 10 ** 20), (39, 40, 140), (500, 501, 3)):
            self.assert_run(A, run, True)
        for run in ((-1, 1, 0), (-1, 0, 0), (0, 1, -1), (-3, -2, -1)):
            self.assert_run(A, run, False)

    def test_wrong_lengths(self):
        for run in ((), (0,), (0, 1), (0, 1, 2, 3), (0, 1, 0, 1, 0, 1)):
            self.assert_run(A, run, False)
        self.assert_run(EMPTY, (), True)
        self.assert_run(EMPTY, (0,), False)

    def test_other_kinds(self):
        for value in OTHERS:
            if not isinstance(value, tuple):
                self.assert_run(A, value, False)
                self.assert_run(EMPTY, value, False)
        for wrong in (None, True, False, 1.0, "1", "", [], (), (1,), 1j, float("nan"), {}):
            for place in range(3):
                self.assert_run(A, with_part((1, 2, 1), (place,), wrong), False)
        self.assert_run(A, [0, 1, 2], False)
        self.assert_run(EMPTY, [], False)

    def test_true_is_no_moment(self):
        self.assert_run(A, (1, 2, 1), True)
        self.assert_run(A, (True, 2, 1), False)
        self.assert_run(A, (1, 2, True), False)
        self.assert_run(A, (False, 2, 1), False)


class Broken(unittest.TestCase):
    def test_the_examples(self):
        self.assertEqual(broken(A, (0, 2, 1)), [("c", "b", 0)])
        self.assertEqual(broken(A, (9, 11, 11)), [("go", "b", 10), ("go", "c", 10)])
        self.assertIs(is_run(A, (0, 4, 4)), False)

    def test_bounds_that_just_hold_or_not(self):
        for moment, expected in ((1, [("c", "b", 0)]), (2, []), (3, []), (4, []), (5, [("b", "c", 2)]),
                                 (10, [("b", "c", 2)]), (11, [("b", "c", 2), ("go", "c", 10)])):
            self.assertEqual(broken(A, (0, 2, moment)), expected)
        self.assertEqual(broken(D, (0, 2, 1)), [])
        self.assertEqual(broken(D, (0, 2, 2)), [("b", "c", -1)])
        self.assertEqual(broken((10, ("a", "b"), (("a", "b", -1), ("b", "a", -1)), ()), (4, 4)),
                         [("a", "b", -1), ("b", "a", -1)])

    def test_bounds_with_go(self):
        self.assertEqual(broken(GOES, (2, 2, 4)), [])
        self.assertEqual(broken(GOES, (1, 1, 3)), [("a", "go", -2)])
        self.assertEqual(broken(GOES, (8, 8, 10)), [])
        self.assertEqual(broken(GOES, (8, 9, 10)), [("go", "b", 8)])
        self.assertEqual(broken(GOES, (3, 2, 5)), [("b", "a", 0)])

    def test_moments_behind_latest(self):
        self.assertEqual(broken(GOES, (9, 7, 11)), [("b", "a", 0), ("go", "c", 10)])
        # A bound with "go" and the edge of latest may be the same tuple: both are told.
        self.assertEqual(
            broken(GOES, (11, 11, 13)),
            [("go", "a", 10), ("go", "b", 8), ("go", "a", 10), ("go", "b", 10), ("go", "c", 10)],
        )
        self.assertEqual(broken((0, ("a", "b"), (), ()), (0, 0)), [])
        self.assertEqual(broken((0, ("a", "b"), (), ()), (1, 0)), [("go", "a", 0)])

    def test_no_events(self):
        self.assertEqual(broken(EMPTY, ()), [])

    def test_all_bounds_of_a_plan_at_the_limits(self):
        run = (50, 53, 57, 80, 63, 100, 140)
        self.assertTrue(is_run(LIMIT, run))
        self.assertEqual(
            broken(LIMIT, run),
            [("a", "d", 20), ("b", "d", 12), ("c", "f", 15), ("f", "g", 3), ("go", "a", 8), ("go", "g", 39)]
            + [("go", event, 40) for event in "abcdefg"],
        )
        self.assertEqual(broken(LIMIT, (8, 17, 10, 9, 14, 20, 21)), [])

    def test_a_wrong_plan_comes_first(self):
        for plan, run in (((10, ("b", "a"), (), ()), (0, 0)), ((10, ("b", "a"), (), ()), None), (None, None)):
            with self.assertRaises(InvalidPlan):
                broken(plan, run)
            with self.assertRaises(InvalidPlan):
                is_run(plan, run)


if __name__ == "__main__":
    unittest.main()
