"""[20] and [22]: plans as objects, what they say, and what they tell of their plans."""

import unittest

from startnow.careful import gap
from startnow.designs import Design
from startnow.errors import (
    InvalidEvent, InvalidHistory, InvalidPair, InvalidPlan, InvalidRun, NotKept, NotSafe, SameEvent,
)
from startnow.histories import advice, blame, can_keep
from startnow.limits import barring, least_most
from startnow.plans import broken, is_run
from startnow.tables import is_paper, paper, table
from tests.game import Player, all_runs
from tests.plays import outcome
from tests.samples import (
    A, CHAIN, D, E, EMPTY, Equal, G, LIMIT, NONE, OTHERS, S, T, limit_plan, made_plan, notice_plan, with_part,
)

PLANS = [A, D, E, G, S, T, EMPTY, CHAIN, LIMIT]
# Values of all kinds that are no tuple of two unlike ones of the events a, b, c and "go".
NO_PAIRS = OTHERS + [
    ("a", "a"), ("go", "go"), ("a", "d"), ("d", "a"), ("z", "z"), ("a", "b", "c"), ("a", "b", 2), ("b", "c", 2),
    ["a", "b"],
    ("a",), ("a", None), (None, "a"), (0, 1), ("a", ["b"]), (["a"], "b"), "ab", {"a": "b"}, ("a", ""), ("A", "b"),
    ("ab",),
    (("a", "b"),), ("a", True), (float("nan"), "a"), ("b", b"c"),
]


class Values(unittest.TestCase):
    def test_the_examples(self):
        p = Design(A)
        self.assertEqual(
            [bool(p), (0, 2, 3) in p, (0, 2, 5) in p, p[("go", "a")], p((0, NONE))], [True, True, False, 7, ["a"]],
        )
        self.assertIs(p == p + ("a", "c", 5), True)
        self.assertIs(bool(p + ("b", "c", -1)), False)
        self.assertEqual((p - ("b", "c")).plan[2], (("c", "b", 0),))

    def test_plan(self):
        for plan in PLANS:
            self.assertEqual(Design(plan).plan, plan)
            self.assertEqual(Design(plan=plan).plan, plan)
            with self.assertRaises(AttributeError):
                Design(plan).plan = A

    def test_what_is_no_plan(self):
        for value in OTHERS + [with_part(D, (3, 0, 2), 0), list(A), A[:3], Design(A)]:
            with self.assertRaises(InvalidPlan):
                Design(value)

    def test_bool(self):
        kept = set()
        for plan in PLANS + [made_plan(k, slack=1) for k in range(150)] + [limit_plan(k) for k in range(20)]:
            self.assertIs(bool(Design(plan)), can_keep(plan))
            kept.add(can_keep(plan))
        self.assertEqual(kept, {True, False})

    def test_runs_in_a_design(self):
        told = set()
        for plan in [S, T, EMPTY] + [made_plan(k, events=3, bounds=3, tasks=1, latest=3) for k in range(30)]:
            design = Design(plan)
            for run in all_runs(plan, plan[0] + 1):
                self.assertIs(run in design, broken(plan, run) == [])
                told.add(run in design)
        self.assertEqual(told, {True, False})

    def test_runs_of_a_plan_that_cannot_be_kept(self):
        self.assertIs((0, 2, 1) in Design(D), True)
        self.assertIs((0, 2, 2) in Design(D), False)
        self.assertIs((0, 2) in Design(G), True)
        self.assertIs((0, 1) in Design(G), False)

    def test_latest_and_times(self):
        self.assertIs((7, 10, 10) in Design(A), True)
        self.assertIs((8, 11, 11) in Design(A), False)
        self.assertIs((8, 10, 11) in Design(A), False)
        self.assertIs((0, 4, 4) in Design(A), False)
        self.assertIs((0, 0, 0) in Design(A), False)

    def test_any_value_in_a_design(self):
        runs = [
            [0, 2, 3], (0, 2), (0, 2, 3, 3), (0, 2, None), (0, 2, 3.0), (False, 2, 3), (-1, 1, 1), Design(A), Equal(),
        ]
        for value in OTHERS + runs:
            for plan in (A, D, LIMIT):
                self.assertFalse(is_run(plan, value))
                self.assertIs(value in Design(plan), False)
        for value in OTHERS:
            self.assertIs(value in Design(EMPTY), value == () and isinstance(value, tuple))

    def test_a_design_is_not_iterated_over(self):
        with self.assertRaises(TypeError):
            list(Design(A))


class Equality(unittest.TestCase):
    def assert_equal(self, one, other, expected):
        with self.subTest(one=one, other=other):
            for left, right in ((one, other), (other, one)):
                self.assertIs(Design(left) == Design(right), expected)
                self.assertIs(Design(left) != Design(right), not expected)

    def test_same_table_and_other_bounds(self):
        self.assert_equal(A, A, True)
        self.assert_equal(A, with_part(A, (2,), (("a", "c", 5),) + A[2]), True)
        self.assert_equal(A, with_part(A, (2,), (("a", "c", 4),) + A[2]), False)
        self.assert_equal(A, with_part(A, (2,), A[2] + (("go", "a", 7),)), True)
        self.assert_equal(A, with_part(A, (2,), A[2] + (("go", "a", 6),)), False)
        self.assert_equal(EMPTY, EMPTY, True)
        self.assert_equal(EMPTY, (5, (), (), ()), True)

    def test_latest(self):
        self.assert_equal(A, with_part(A, (0,), 11), False)
        self.assert_equal((5, ("a",), (("go", "a", 3),), ()), (4, ("a",), (("go", "a", 3),), ()), True)
        self.assert_equal((5, ("a",), (("go", "a", 3),), ()), (3, ("a",), (), ()), True)
        self.assert_equal((5, ("a",), (("go", "a", 3),), ()), (2, ("a",), (), ()), False)

    def test_plans_that_cannot_be_kept(self):
        self.assert_equal(D, D, True)
        self.assert_equal(D, with_part(A, (0,), 0), True)
        self.assert_equal(D, with_part(D, (2, 0, 2), -2), True)
        self.assert_equal(D, A, False)
        self.assert_equal(D, with_part(A, (2,), ()), False)
        # Each has other events or another task.
        self.assert_equal(D, E, False)
        self.assert_equal(D, G, False)

    def test_other_events_or_tasks(self):
        self.assert_equal(A, with_part(A, (1,), ("a", "b", "c", "d")), False)
        self.assert_equal(A, with_part(A, (3, 0, 3), 4), False)
        self.assert_equal(A, with_part(A, (3, 0, 2), 2), False)
        self.assert_equal(A, with_part(A, (3,), ()), False)
        self.assert_equal((3, ("a",), (), ()), (3, ("b",), (), ()), False)
        self.assert_equal(EMPTY, (0, ("a",), (), ()), False)

    def test_made_plans(self):
        told = set()
        for number in range(60):
            one, other = [made_plan(number, bounds=3, slack=1), made_plan(number, bounds=4, slack=1, latest=7)]
            moved = with_part(one, (0,), max(0, one[0] - number % 3))
            for left, right in ((one, other), (one, moved)):
                expected = left[1] == right[1] and left[3] == right[3] and can_keep(left) == can_keep(right)
                if expected and can_keep(left):
                    expected = table(left) == table(right)
                self.assert_equal(left, right, expected)
                told.add((expected, can_keep(left)))
        self.assertGreaterEqual(len(told), 3)

    def test_values_of_other_kinds(self):
        for plan in (A, D, EMPTY):
            for value in OTHERS + [plan, list(plan), plan[2]]:
                self.assertIs(Design(plan) == value, False)
                self.assertIs(Design(plan) != value, True)
                self.assertIs(value == Design(plan), False)


class Weights(unittest.TestCase):
    def test_each_pair_against_the_table(self):
        for plan in PLANS + [made_plan(k) for k in range(40)] + [limit_plan(k) for k in range(3)]:
            places = ("go",) + plan[1]
            pairs = [(x, y) for x in places for y in places if x != y]
            if can_keep(plan):
                told = {edge[:3]: edge[3] for edge in table(plan)}
                self.assertEqual([Design(plan)[pair] for pair in pairs], [told[pair + ("",)] for pair in pairs])
            else:
                for pair in pairs:
                    with self.assertRaises(NotKept) as caught:
                        Design(plan)[pair]
                    self.assertTrue(is_paper(plan, caught.exception.reason))

    def test_numbers(self):
        p = Design(A)
        self.assertEqual(
            [p["go", "a"], p["a", "go"], p["b", "a"], p["c", "a"], p["b", "c"], p["go", "c"]], [7, 0, -1, -1, 2, 10],
        )

    def test_what_is_no_pair(self):
        for value in NO_PAIRS + [(Equal(), "a"), ("a", Equal()), Equal()]:
            for plan in (A, D):
                with self.subTest(value=value, plan=plan), self.assertRaises(InvalidPair):
                    Design(plan)[value]
        with self.assertRaises(InvalidPair):
            Design(EMPTY)["go", "a"]
        with self.assertRaises(NotKept):
            Design(D)["a", "b"]


class Calls(unittest.TestCase):
    def test_advice(self):
        told = set()
        for plan in [A, D, S, EMPTY] + [made_plan(k, events=3, bounds=3, tasks=1, latest=3) for k in range(25)]:
            for history in list(Player(plan).histories(plan[0]))[:300]:
                expected = outcome(advice, plan, history)
                self.assertEqual(outcome(Design(plan), history), expected)
                told.add(str(expected))
        self.assertIn("NotSafe", told)
        self.assertGreater(len(told), 5)

    def test_errors(self):
        for value in OTHERS + [(3, (0, None, None)), (2, [0, 2, None]), [0, NONE], "at 0; none"]:
            for plan in (A, D):
                with self.assertRaises(InvalidHistory):
                    Design(plan)(value)
                with self.assertRaises(InvalidHistory):
                    Design(plan)(history=value)
        for plan, history in ((D, (0, NONE)), (A, (5, (0, 2, None))), (A, (11, NONE))):
            with self.assertRaises(NotSafe):
                Design(plan)(history)
            with self.assertRaises(NotSafe):
                Design(plan)(history=history)
        self.assertEqual(Design(A)(history=(0, NONE)), ["a"])


class Methods(unittest.TestCase):
    def test_what_is_told_of_the_plan(self):
        for plan in PLANS + [made_plan(k, slack=1) for k in range(60)] + [notice_plan(k) for k in range(20)]:
            d = Design(plan)
            self.assertEqual(outcome(d.table), outcome(table, plan))
            self.assertEqual(d.paper(), paper(plan))
            self.assertEqual(d.barring(), barring(plan))
            self.assertEqual(d.plan, plan)

    def test_not_kept(self):
        for plan in (D, E, G):
            with self.assertRaises(NotKept) as caught:
                Design(plan).table()
            self.assertTrue(is_paper(plan, caught.exception.reason))
            self.assertTrue(is_paper(plan, Design(plan).paper()))

    def test_blame(self):
        for plan in (S, T, D, G) + tuple(made_plan(k, events=3, bounds=3, tasks=1, latest=3) for k in range(10)):
            for run in list(all_runs(plan, plan[0] + 1))[:100]:
                self.assertEqual(Design(plan).blame(run), blame(plan, run))
                self.assertEqual(Design(plan).blame(run=run), blame(plan, run))
        for value in OTHERS + [(0, 4, 4), [0, 2, 2], (0, 2), (0, 2, None)]:
            for plan in (A, D):
                with self.assertRaises(InvalidRun):
                    Design(plan).blame(value)
                with self.assertRaises(InvalidRun):
                    Design(plan).blame(run=value)

    def test_pairs_of_events(self):
        for plan in (A, D, S, T, G, EMPTY, CHAIN) + tuple(made_plan(k, events=3, bounds=3) for k in range(10)):
            d = Design(plan)
            for x in ("go",) + plan[1] + ("zz", None):
                for y in ("go",) + plan[1] + ("zz", None):
                    self.assertEqual(outcome(d.least_most, x, y), outcome(least_most, plan, x, y))
                    self.assertEqual(
                        outcome(lambda one, two: d.least_most(y=two, x=one), x, y), outcome(d.least_most, x, y),
                    )

    def test_gap(self):
        plans = [made_plan(k, events=4, bounds=3, tasks=2, latest=3, time=2) for k in range(20)]
        for plan in [S, T, EMPTY, with_part(D, (0,), 4)] + plans:
            d = Design(plan)
            for x in ("go",) + plan[1] + ("zz", ["a"]):
                for y in ("go",) + plan[1] + ("zz", 0):
                    expected = outcome(gap, plan, x, y)
                    self.assertEqual(outcome(d.gap, x, y), expected)
                    self.assertEqual(outcome(lambda one, two: d.gap(y=two, x=one), x, y), expected)

    def test_errors(self):
        for plan in (S, with_part(D, (0,), 4)):
            for value in OTHERS + ["d", "GO", ("a", "b")]:
                if value == "a" or value == "go":
                    continue
                for call in (Design(plan).least_most, Design(plan).gap):
                    for x, y in ((value, "a"), ("a", value), (value, value)):
                        with self.subTest(value=value), self.assertRaises(InvalidEvent):
                            call(x, y)
            with self.assertRaises(SameEvent):
                Design(plan).least_most("a", "a")
        self.assertEqual(Design(S).gap("a", "a"), (0, 0))
        self.assertIsNone(Design(with_part(D, (0,), 4)).gap("a", "a"))


if __name__ == "__main__":
    unittest.main()
