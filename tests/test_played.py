"""[9]: the run that comes about by the rule, and the first wrong step of a run."""

import unittest
from itertools import product

from startnow.errors import InvalidPlan, InvalidRun, InvalidTimes, NotKept
from startnow.histories import blame, played, safe
from startnow.plans import broken, is_run
from startnow.tables import is_paper
from tests.game import Player, all_runs
from tests.samples import A, CHAIN, D, E, EMPTY, G, NONE, OTHERS, S, T, made_plan, notice_plan, with_part

# b may come as soon as one moment behind a, and c has to come ahead of it.
AHEAD = (10, ("a", "b", "c"), (("b", "c", -1),), (("a", "b", 1, 3),))
WAITS = (6, ("a", "wait"), (("wait", "a", -1),), ())


def all_times(plan):
    return product(*[range(least, greatest + 1) for _, _, least, greatest in plan[3]])


class Played(unittest.TestCase):
    def assert_played(self, plan, times, run):
        self.assertEqual(played(plan, times), run)
        self.assertTrue(is_run(plan, run))
        self.assertEqual(broken(plan, run), [])
        self.assertIsNone(blame(plan, run))
        taken = [run[plan[1].index(end)] - run[plan[1].index(begin)] for begin, end, _, _ in plan[3]]
        self.assertEqual(tuple(taken), times)

    def test_the_examples(self):
        self.assert_played(A, (2,), (0, 2, 2))
        self.assert_played(A, (1,), (0, 1, 1))
        self.assert_played(A, (3,), (0, 3, 3))

    def test_chains(self):
        # The end d may not come before the moment 4, so nothing has to wait.
        self.assert_played(CHAIN, (1, 1, 2), (0, 1, 2, 4))
        self.assert_played(CHAIN, (2, 3, 2), (0, 2, 5, 7))
        later = with_part(CHAIN, (2, 0, 2), -6)
        self.assert_played(later, (1, 1, 2), (2, 3, 4, 6))
        self.assert_played(later, (2, 3, 2), (2, 4, 7, 9))

    def test_several_tasks(self):
        plan = (20, ("a", "b", "c", "d"), (("b", "d", 0), ("d", "c", 3)), (("a", "b", 1, 5), ("a", "c", 2, 4)))
        for times in all_times(plan):
            run = played(plan, times)
            self.assert_played(plan, times, run)
            self.assertEqual(run, Player(plan).played(times))

    def test_times_go_by_the_order_of_the_tasks(self):
        plan = (20, ("a", "b", "z"), (), (("a", "z", 1, 5), ("z", "b", 7, 9)))
        self.assert_played(plan, (4, 8), (0, 12, 4))
        with self.assertRaises(InvalidTimes):
            played(plan, (8, 4))

    def test_no_tasks_and_no_events(self):
        self.assert_played(EMPTY, (), ())
        self.assert_played((7, (), (), ()), (), ())
        self.assert_played((0, ("a", "b"), (), ()), (), (0, 0))
        self.assert_played((9, ("a", "b"), (("a", "go", -3), ("b", "a", -6)), ()), (), (3, 9))

    def test_a_plan_that_just_can_be_kept(self):
        self.assert_played((3, ("a", "b"), (), (("a", "b", 1, 3),)), (3,), (0, 3))
        self.assert_played(AHEAD, (1,), (0, 1, 0))
        self.assert_played(AHEAD, (3,), (0, 3, 0))

    def test_all_times_of_small_plans(self):
        seen = 0
        plans = [made_plan(number, events=4, bounds=4, tasks=3, latest=8, slack=1) for number in range(500, 620)]
        plans += [notice_plan(number) for number in range(40)]
        for plan in plans + [A, S, T, CHAIN]:
            player = Player(plan)
            if player.safe(player.nothing):
                for times in list(all_times(plan))[:12]:
                    with self.subTest(plan=plan, times=times):
                        seen += 1
                        self.assert_played(plan, times, player.played(times))
        self.assertGreater(seen, 100)

    def test_plans_that_cannot_be_kept(self):
        for plan, times in ((D, (2,)), (E, (4,)), (G, (3,)), ((0, ("a", "b"), (), (("a", "b", 1, 1),)), (1,))):
            with self.assertRaises(NotKept) as caught:
                played(plan, times)
            self.assertIs(is_paper(plan, caught.exception.reason), True)

    def test_times_of_wrong_numbers(self):
        for plan in (A, D):
            for time in (0, 4, -1, 100, True, False, None, 2.0, "2", "", (), (2,), [2], 1j, float("nan")):
                with self.subTest(time=time), self.assertRaises(InvalidTimes):
                    played(plan, (time,))
        for times in ((1, 1, 3), (1, 1, 1), (3, 1, 2), (1, 4, 2), (0, 1, 2), (1, True, 2), (1, 1, None)):
            with self.assertRaises(InvalidTimes):
                played(CHAIN, times)

    def test_times_of_wrong_lengths_and_kinds(self):
        for times in ((), (2, 2), (2, None), [2], [], 2, "2", None, {0: 2}, ((2,),)):
            with self.subTest(times=times), self.assertRaises(InvalidTimes):
                played(A, times)
        for value in OTHERS:
            if value != (1,):
                with self.assertRaises(InvalidTimes):
                    played(A, value)
            if value != ():
                with self.assertRaises(InvalidTimes):
                    played(EMPTY, value)
            with self.assertRaises(InvalidPlan):
                played(value, (2,))
        self.assertEqual(played(A, (1,)), (0, 1, 1))


class Blame(unittest.TestCase):
    def test_the_examples(self):
        self.assertEqual(blame(A, (0, 2, 1)), (1, "c"))
        self.assertEqual(blame(A, (0, 1, 4)), (3, "wait"))
        self.assertIsNone(blame(A, (0, 2, 3)))
        self.assertEqual(blame(D, (0, 2, 1)), (0, "go"))

    def test_plans_that_cannot_be_kept(self):
        for plan, run in ((D, (0, 3, 0)), (D, (140, 142, 139)), (E, (0, 2, 1)), (G, (0, 3)), (G, (0, 2))):
            self.assertEqual(blame(plan, run), (0, "go"))

    def test_starts(self):
        self.assertEqual(blame(A, (4, 6, 3)), (3, "c"))
        self.assertEqual(blame(A, (4, 6, 4)), (4, "c"))
        self.assertIsNone(blame(A, (4, 6, 6)))
        self.assertIsNone(blame(A, (7, 10, 10)))
        self.assertEqual(blame(A, (0, 3, 0)), (0, "c"))

    def test_waits(self):
        self.assertEqual(blame(A, (8, 9, 9)), (7, "wait"))
        self.assertEqual(blame(A, (8, 9, 7)), (7, "c"))
        self.assertEqual(blame(A, (0, 1, 5)), (3, "wait"))
        self.assertEqual(blame((6, ("a",), (), ()), (7,)), (6, "wait"))
        self.assertEqual(blame((0, ("a",), (), ()), (1,)), (0, "wait"))
        self.assertIsNone(blame((6, ("a",), (), ()), (6,)))

    def test_a_wait_that_was_lucky(self):
        # The task took long enough, but might have ended at the moment 1.
        self.assertEqual(broken(AHEAD, (0, 3, 2)), [])
        self.assertEqual(blame(AHEAD, (0, 3, 2)), (0, "wait"))
        self.assertIsNone(blame(AHEAD, (0, 3, 0)))
        self.assertEqual(blame(AHEAD, (5, 8, 6)), (5, "wait"))

    def test_a_start_that_was_lucky(self):
        # The end b may come three moments behind a, and then c is ahead of it by more than two.
        plan = (10, ("a", "b", "c"), (("c", "b", 2),), (("a", "b", 1, 3),))
        self.assertEqual(broken(plan, (1, 2, 0)), [])
        self.assertEqual(blame(plan, (1, 2, 1)), (1, "c"))
        self.assertEqual(blame(plan, (1, 2, 0)), (0, "c"))
        self.assertIsNone(blame(plan, (1, 2, 2)))
        self.assertIsNone(blame(plan, (1, 4, 2)))

    def test_several_starts_at_one_moment(self):
        plan = (5, ("a", "b", "c"), (("a", "b", 0), ("a", "go", -1), ("b", "a", 0), ("c", "go", -1)), ())
        self.assertEqual(blame(plan, (0, 0, 0)), (0, "a"))
        self.assertEqual(blame(plan, (1, 0, 0)), (0, "b"))
        self.assertEqual(blame(plan, (1, 1, 0)), (0, "c"))
        self.assertEqual(blame(plan, (2, 3, 3)), (2, "wait"))
        self.assertIsNone(blame(plan, (1, 1, 1)))
        self.assertIsNone(blame(plan, (5, 5, 3)))
        # Behind a it is too late for b to be a moment ahead of it, and c is fine.
        plan = (5, ("a", "b", "c"), (("a", "b", -1),), ())
        self.assertEqual(blame(plan, (2, 2, 2)), (2, "a"))
        self.assertEqual(blame(plan, (2, 3, 2)), (2, "a"))
        self.assertIsNone(blame(plan, (2, 1, 2)))

    def test_the_start_that_was_wrong_is_not_the_first_one(self):
        plan = (5, ("a", "b", "c"), (("b", "a", -1), ("c", "a", -2)), ())
        self.assertEqual(blame(plan, (1, 1, 3)), (1, "b"))
        self.assertEqual(blame(plan, (1, 2, 1)), (1, "c"))
        self.assertEqual(blame(plan, (1, 1, 1)), (1, "b"))

    def test_ends_and_starts_at_one_moment(self):
        self.assertIsNone(blame(A, (0, 2, 2)))
        # The end a is seen at 2, ahead of b, which has a name behind it and is started at once.
        plan = (9, ("a", "b", "z"), (("a", "b", 0), ("b", "a", 0)), (("z", "a", 1, 3),))
        self.assertIsNone(blame(plan, (2, 2, 0)))
        self.assertEqual(blame(plan, (2, 3, 0)), (2, "wait"))
        self.assertEqual(blame(plan, (2, 1, 0)), (1, "b"))
        # The same with an end behind the start by name: the end still comes first.
        plan = (9, ("a", "b", "z"), (("a", "z", 0), ("z", "a", 0)), (("b", "z", 1, 3),))
        self.assertIsNone(blame(plan, (2, 0, 2)))
        self.assertEqual(blame(plan, (1, 0, 2)), (1, "a"))
        self.assertEqual(blame(plan, (3, 0, 2)), (2, "wait"))

    def test_several_ends_at_one_moment(self):
        plan = (9, ("a", "b", "c", "d"), (("b", "d", 0), ("c", "d", 0)), (("a", "b", 1, 2), ("a", "c", 1, 2)))
        self.assertIsNone(blame(plan, (0, 1, 1, 1)))
        self.assertIsNone(blame(plan, (0, 1, 2, 1)))
        self.assertEqual(blame(plan, (0, 1, 2, 2)), (1, "wait"))
        self.assertEqual(blame(plan, (0, 2, 2, 3)), (2, "wait"))
        self.assertIsNone(blame(plan, (0, 2, 2, 2)))

    def test_an_event_that_is_called_wait(self):
        self.assertIsNone(blame(WAITS, (0, 1)))
        self.assertEqual(blame(WAITS, (1, 1)), (1, "wait"))
        self.assertEqual(blame(WAITS, (3, 0)), (0, "wait"))
        self.assertEqual(blame(WAITS, (6, 7)), (5, "wait"))
        self.assertEqual(blame(WAITS, (5, 7)), (6, "wait"))

    def test_moments_behind_latest(self):
        self.assertEqual(blame(A, (140, 143, 143)), (7, "wait"))
        self.assertEqual(blame(A, (7, 10, 11)), (10, "wait"))
        self.assertEqual(blame(A, (6, 9, 140)), (10, "wait"))
        self.assertEqual(blame(A, (7, 10, 140)), (10, "wait"))
        self.assertEqual(blame(A, (5, 7, 100)), (9, "wait"))

    def test_no_events(self):
        self.assertIsNone(blame(EMPTY, ()))
        self.assertIsNone(blame((5, (), (), ()), ()))

    def test_a_run_without_blame_keeps_the_plan(self):
        for plan in (A, S, T, AHEAD, WAITS):
            for run in all_runs(plan, 6):
                if broken(plan, run):
                    self.assertIsNotNone(blame(plan, run))

    def test_against_the_player(self):
        told = {"start": 0, "wait": 0, "go": 0, "none": 0}
        plans = [made_plan(number, events=4, bounds=4, tasks=2, latest=number % 7, slack=1) for number in range(60)]
        for plan in plans + [notice_plan(number) for number in range(10)]:
            player = Player(plan)
            runs = list(all_runs(plan, plan[0] + 1))
            for run in runs[:: 1 + len(runs) // 25]:
                with self.subTest(plan=plan, run=run):
                    step = blame(plan, run)
                    self.assertEqual(step, player.blame(run))
                    kind = "none" if step is None else step[1] if step[1] in ("wait", "go") else "start"
                    told[kind] += 1
        self.assertGreater(min(told.values()), 50, told)

    def test_what_is_no_run(self):
        for plan in (A, D):
            for value in OTHERS + [(0, 4, 4), (0, 2), (0, 2, 2, 2), [0, 2, 2], (-1, 1, 1), (0, True, 1), (2, (0, 2, 2))]:
                with self.subTest(value=value), self.assertRaises(InvalidRun):
                    blame(plan, value)
            with self.assertRaises(InvalidRun):
                blame(plan, NONE)
        for value in OTHERS:
            with self.assertRaises(InvalidPlan):
                blame(value, (0, 2, 2))

    def test_the_steps_ahead_of_a_blame_are_safe(self):
        self.assertIs(safe(A, (3, (0, 1, None))), True)
        self.assertIs(safe(A, (4, (0, 1, None))), False)


if __name__ == "__main__":
    unittest.main()
