"""[17] and [18]: what can come about."""

import unittest

from startnow.careful import alike, gap, many_runs, parting_run
from startnow.errors import InvalidEvent, InvalidPlan, OtherTasks
from startnow.histories import blame, can_keep
from startnow.plans import broken, is_run
from tests.game import Player, all_runs
from tests.samples import A, D, E, EMPTY, G, OTHERS, S, T, made_plan, with_part

NO_EVENT = ["d", "", "A", "gone", "ab", "go ", None, True, False, 0, 1, -1, 1.5, b"a", (), ("a",), [], ["a"], {}, {"a": 1}]
SMALL_D = with_part(D, (0,), 6)
FREE = (3, ("a", "b"), (), ())
TIMED = (6, ("a", "b"), (), (("a", "b", 2, 3),))


def small_plans(numbers):
    """Plans of at most four events, at most three of them ours, latest at most 6."""
    for number in numbers:
        plan = made_plan(number, events=4, bounds=4, tasks=3, latest=number % 7, slack=1)
        if len(plan[1]) < 4 or plan[3]:
            yield plan


class Gap(unittest.TestCase):
    def assert_gap(self, plan, x, y, expected):
        with self.subTest(plan=plan, x=x, y=y):
            self.assertEqual(gap(plan, x, y), expected)
            back = None if expected is None else (-expected[1], -expected[0])
            self.assertEqual(gap(plan, y, x), back)

    def test_the_examples(self):
        self.assert_gap(S, "a", "c", (1, 3))
        self.assert_gap(S, "go", "a", (0, 2))

    def test_equal_x_and_y(self):
        for plan in (S, T, FREE, TIMED):
            for place in plan[1] + ("go",):
                self.assert_gap(plan, place, place, (0, 0))
        self.assert_gap(EMPTY, "go", "go", (0, 0))
        self.assert_gap((5, (), (), ()), "go", "go", (0, 0))

    def test_plans_that_cannot_be_kept(self):
        for plan in (D, E, SMALL_D):
            for x, y in (("a", "b"), ("go", "a"), ("a", "a"), ("go", "go"), ("c", "go")):
                self.assert_gap(plan, x, y, None)
        self.assert_gap((0, ("a",), (("a", "go", -1),), ()), "a", "a", None)

    def test_no_tasks(self):
        self.assert_gap(FREE, "a", "b", (-3, 3))
        self.assert_gap(FREE, "go", "b", (0, 3))
        self.assert_gap((6, ("a", "b"), (("a", "b", 4), ("b", "a", -2), ("go", "a", 3)), ()), "a", "b", (2, 4))
        self.assert_gap((6, ("a", "b"), (("a", "b", 4), ("b", "a", -2), ("go", "a", 3)), ()), "go", "b", (2, 6))

    def test_tasks(self):
        self.assert_gap(TIMED, "a", "b", (2, 3))
        self.assert_gap(TIMED, "go", "a", (0, 3))
        self.assert_gap(TIMED, "go", "b", (2, 6))

    def test_runs_that_keep_the_plan_by_luck_do_not_count(self):
        # The task may take three moments, so a is started at 3 at the latest, and c with it.
        ahead = (6, ("a", "b", "c"), (("b", "c", -1),), (("a", "b", 1, 3),))
        self.assertEqual(broken(ahead, (5, 6, 5)), [])
        self.assert_gap(ahead, "go", "a", (0, 3))
        self.assertEqual(broken(ahead, (0, 3, 2)), [])
        self.assert_gap(ahead, "a", "c", (-3, 0))

    def test_small_plans_against_the_player(self):
        for plan in small_plans(range(70)):
            runs = [(0,) + run for run in Player(plan).careful_runs()]
            places = ("go",) + plan[1]
            for k, x in enumerate(places):
                for m, y in enumerate(places[k:], k):
                    apart = [run[m] - run[k] for run in runs]
                    self.assert_gap(plan, x, y, (min(apart), max(apart)) if runs else None)

    def test_what_is_no_event(self):
        for wrong in NO_EVENT:
            for plan in (S, SMALL_D):
                for x, y in ((wrong, "a"), ("a", wrong), ("go", wrong), (wrong, wrong)):
                    with self.subTest(x=x, y=y), self.assertRaises(InvalidEvent):
                        gap(plan, x, y)
        for value in OTHERS:
            for x, y in (("a", "b"), (None, "a"), ("a", None)):
                with self.assertRaises(InvalidPlan):
                    gap(value, x, y)


class ManyRuns(unittest.TestCase):
    def test_the_example(self):
        self.assertEqual(many_runs(T), 6)

    def test_counts(self):
        self.assertEqual(many_runs(EMPTY), 1)
        self.assertEqual(many_runs((6, (), (), ())), 1)
        self.assertEqual(many_runs((6, ("a",), (), ())), 7)
        self.assertEqual(many_runs(FREE), 16)
        self.assertEqual(many_runs((6, ("a", "b", "c"), (), ())), 343)
        self.assertEqual(many_runs(TIMED), 8)
        self.assertEqual(many_runs((6, ("a", "b", "c", "d"), (), (("b", "d", 1, 3),))), 49 * 4 * 3)
        self.assertEqual(many_runs((6, ("a", "b", "c", "d"), (), (("a", "b", 1, 2), ("a", "c", 1, 2), ("b", "d", 1, 1)))), 16)
        self.assertEqual(many_runs((0, ("a", "b"), (), ())), 1)

    def test_plans_that_cannot_be_kept(self):
        for plan in (D, E, SMALL_D, G, (0, ("a",), (("a", "go", -1),), ()), (2, ("a", "b"), (), (("a", "b", 1, 3),))):
            self.assertEqual(many_runs(plan), 0)

    def test_they_are_the_runs_without_blame(self):
        for plan in small_plans(range(100, 140)):
            runs = [run for run in all_runs(plan, plan[0]) if broken(plan, run) == []]
            if len(runs) < 60:
                with self.subTest(plan=plan):
                    self.assertEqual(many_runs(plan), sum(blame(plan, run) is None for run in runs))

    def test_small_plans_against_the_player(self):
        counts = []
        for plan in small_plans(range(200, 420)):
            with self.subTest(plan=plan):
                counts.append(many_runs(plan))
                self.assertEqual(counts[-1], len(Player(plan).careful_runs()))
                self.assertEqual(counts[-1] > 0, can_keep(plan))
        self.assertGreater(sum(count > 0 for count in counts), 60)
        self.assertGreater(max(counts), 40)

    def test_what_is_no_plan(self):
        for value in OTHERS:
            with self.assertRaises(InvalidPlan):
                many_runs(value)


class Alike(unittest.TestCase):
    def assert_parting(self, one, other, expected):
        """Both functions, either way round."""
        with self.subTest(one=one, other=other):
            for first, second in ((one, other), (other, one)):
                self.assertEqual(parting_run(first, second), expected)
                self.assertIs(alike(first, second), expected is None)

    def test_the_examples(self):
        self.assert_parting(S, T, (0, 1, 2))

    def test_a_plan_and_itself(self):
        for plan in (S, T, EMPTY, FREE, TIMED, SMALL_D):
            self.assert_parting(plan, plan, None)

    def test_another_latest(self):
        self.assert_parting(FREE, (2, ("a", "b"), (), ()), (0, 3))
        self.assert_parting(TIMED, with_part(TIMED, (0,), 5), (3, 5))
        self.assert_parting(EMPTY, (5, (), (), ()), None)
        held = (6, ("a",), (("go", "a", 2),), ())
        self.assert_parting(held, with_part(held, (0,), 2), None)
        self.assert_parting(held, with_part(held, (0,), 1), (2,))

    def test_a_bound_that_holds_anyway_and_one_that_does_not(self):
        self.assert_parting(S, (4, S[1], (("a", "c", 3),) + S[2], S[3]), None)
        self.assert_parting(S, (4, S[1], (("a", "c", 2),) + S[2], S[3]), (0, 2, 3))
        self.assert_parting(S, (4, S[1], (("a", "b", 2),) + S[2], S[3]), None)
        self.assert_parting(S, (4, S[1], (("a", "b", 1),) + S[2], S[3]), (0, 1, 1))
        self.assert_parting(FREE, (3, ("a", "b"), (("a", "b", 2),), ()), (0, 3))
        self.assert_parting(FREE, (3, ("a", "b"), (("b", "a", 2),), ()), (3, 0))

    def test_bounds_written_in_other_ways(self):
        # c comes one moment ahead of b or sooner: so it is not behind a.
        one = (6, ("a", "b", "c"), (("b", "c", -1),), (("a", "b", 1, 3),))
        other = (6, ("a", "b", "c"), (("a", "c", 0),), (("a", "b", 1, 3),))
        self.assert_parting(one, other, None)
        self.assert_parting(one, with_part(other, (2, 0, 2), -1), (0, 1, 0))

    def test_plans_that_cannot_be_kept(self):
        never = (4, S[1], (("b", "go", -9),), S[3])
        worse = (4, S[1], (("a", "go", -4),), S[3])
        self.assert_parting(never, worse, None)
        self.assert_parting(S, never, (0, 1, 1))
        self.assert_parting(never, T, (0, 1, 1))
        self.assert_parting((0, (), (), ()), (3, (), (), ()), None)

    def test_the_least_run_of_either(self):
        # Each of the two keeps what the other one does not.
        early = (4, ("a", "b"), (("go", "a", 1),), ())
        late = (4, ("a", "b"), (("a", "go", -1),), ())
        self.assert_parting(early, late, (0, 0))
        self.assert_parting(late, (4, ("a", "b"), (("a", "go", -1), ("b", "go", -1)), ()), (1, 0))

    def test_small_plans_against_the_player(self):
        parted = kept = 0
        for plan in small_plans(range(500, 640)):
            runs = Player(plan).careful_runs()
            for k in range(len(plan[2])):
                other = with_part(plan, (2, k, 2), plan[2][k][2] + 1)
                expected = min(set(runs) ^ set(Player(other).careful_runs()), default=None)
                self.assert_parting(plan, other, expected)
                if expected is not None:
                    parted += 1
                    self.assertTrue(is_run(plan, expected))
                    self.assertNotEqual(blame(plan, expected) is None, blame(other, expected) is None)
                kept += expected is None and bool(runs)
        self.assertGreater(parted, 40)
        self.assertGreater(kept, 10)

    def test_unlike_events_or_tasks(self):
        others = [
            (4, ("a", "b", "d"), (), S[3]), (4, ("a", "b"), (), S[3]), (4, S[1], S[2], ()), EMPTY,
            with_part(S, (3, 0, 3), 3), with_part(S, (3, 0, 2), 2), (4, S[1], S[2], (("a", "c", 1, 2),)),
            (4, S[1] + ("d",), S[2], S[3]), (4, S[1], (), (("c", "b", 1, 2),)),
        ]
        for other in others:
            for first, second in ((S, other), (other, S)):
                for call in (alike, parting_run):
                    with self.subTest(other=other), self.assertRaises(OtherTasks):
                        call(first, second)

    def test_what_is_no_plan(self):
        for value in OTHERS:
            for call in (alike, parting_run):
                for first, second in ((value, S), (S, value), (value, value), (value, EMPTY)):
                    with self.assertRaises(InvalidPlan):
                        call(first, second)


class BeyondTheLimits(unittest.TestCase):
    def test_plans_of_section_3(self):
        self.assertEqual(gap(A, "b", "c"), (0, 2))
        self.assertEqual(gap(A, "go", "a"), (0, 7))
        # Eight starts of a, three times, three starts of c, but for four that come behind latest.
        self.assertEqual(many_runs(A), 8 * 3 * 3 - 4)


if __name__ == "__main__":
    unittest.main()
