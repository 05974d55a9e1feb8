"""[8]: what can be started now, what the rule starts, and how long one can wait."""

import unittest

from startnow.errors import InvalidHistory, InvalidPlan, NotSafe
from startnow.histories import advice, safe, startable, wait_until
from tests.game import Player
from tests.samples import A, CHAIN, D, E, EMPTY, G, NONE, OTHERS, made_plan, notice_plan

TOGETHER = (5, ("a", "b", "c"), (("a", "b", 0), ("b", "a", 0)), ())
ROW = (5, ("a", "b", "c"), (("b", "c", -1), ("c", "a", -1)), ())
# b may come as soon as one moment behind a, and c has to come ahead of it.
AHEAD = (10, ("a", "b", "c"), (("b", "c", -1),), (("a", "b", 1, 3),))


class Rule(unittest.TestCase):
    def assert_rule(self, plan, history, starts, started, last):
        with self.subTest(plan=plan, history=history):
            self.assertEqual(startable(plan, history), starts)
            self.assertEqual(advice(plan, history), started)
            self.assertEqual(wait_until(plan, history), last)

    def assert_not_safe(self, plan, history):
        with self.subTest(plan=plan, history=history):
            self.assertIs(safe(plan, history), False)
            self.assertEqual(startable(plan, history), [])
            for call in (advice, wait_until):
                with self.assertRaises(NotSafe):
                    call(plan, history)

    def test_the_examples(self):
        self.assert_rule(A, (0, NONE), ["a"], ["a"], 7)
        self.assertEqual(advice(A, (2, (0, 2, None))), ["c"])
        self.assertEqual(advice(A, (1, (0, None, None))), [])

    def test_starts_behind_an_end(self):
        self.assert_rule(A, (2, (0, 2, None)), ["c"], ["c"], 4)
        self.assert_rule(A, (3, (0, 2, None)), ["c"], ["c"], 4)
        self.assert_rule(A, (4, (0, 2, None)), ["c"], ["c"], 4)
        self.assert_not_safe(A, (5, (0, 2, None)))

    def test_several_starts_at_one_moment(self):
        self.assert_rule(TOGETHER, (0, NONE), ["a", "b", "c"], ["a", "b", "c"], 5)
        self.assert_rule(TOGETHER, (3, (None, None, 2)), ["a", "b"], ["a", "b"], 5)
        self.assert_rule(TOGETHER, (3, (3, None, None)), ["b", "c"], ["b", "c"], 3)
        self.assert_rule(TOGETHER, (3, (None, 3, 3)), ["a"], ["a"], 3)
        self.assert_rule(TOGETHER, (5, NONE), ["a", "b", "c"], ["a", "b", "c"], 5)
        self.assert_not_safe(TOGETHER, (4, (3, None, None)))

    def test_starts_of_which_one_waits_for_another(self):
        self.assert_rule(ROW, (0, NONE), ["a"], ["a"], 3)
        self.assert_rule(ROW, (0, (0, None, None)), [], [], 4)
        self.assert_rule(ROW, (1, (0, None, None)), ["c"], ["c"], 4)
        self.assert_rule(ROW, (1, (0, None, 1)), [], [], 5)
        self.assert_rule(ROW, (2, (0, None, 1)), ["b"], ["b"], 5)
        self.assert_not_safe(ROW, (1, (None, None, 0)))

    def test_an_event_that_is_started_lets_another_one_be_started_too(self):
        # c alone can be started while nothing runs; behind a it has to be started at once.
        self.assert_rule(AHEAD, (0, NONE), ["a", "c"], ["a", "c"], 7)
        self.assert_rule(AHEAD, (4, (4, None, None)), ["c"], ["c"], 4)
        self.assert_rule(AHEAD, (4, (None, None, 2)), ["a"], ["a"], 7)

    def test_a_running_task_that_has_to_end_at_the_next_moment(self):
        self.assert_rule(A, (0, (0, None, None)), [], [], 2)
        self.assert_rule(A, (1, (0, None, None)), [], [], 2)
        self.assert_rule(A, (2, (0, None, None)), [], [], 2)
        self.assert_rule(CHAIN, (4, (4, None, None, None)), [], [], 5)
        self.assert_rule(CHAIN, (5, (4, None, None, None)), [], [], 5)
        self.assert_rule(CHAIN, (5, (4, 5, None, None)), [], [], 7)
        self.assert_rule(CHAIN, (6, (3, 4, 6, None)), [], [], 7)

    def test_two_running_tasks(self):
        plan = (20, ("a", "b", "c"), (), (("a", "b", 1, 6), ("a", "c", 1, 4)))
        self.assert_rule(plan, (2, (2, None, None)), [], [], 5)
        self.assert_rule(plan, (3, (2, None, 3)), [], [], 7)
        self.assert_rule(plan, (3, (2, 3, None)), [], [], 5)

    def test_all_has_happened(self):
        self.assert_rule(A, (3, (0, 2, 3)), [], [], 10)
        self.assert_rule(A, (10, (0, 2, 3)), [], [], 10)
        self.assert_rule(EMPTY, (0, ()), [], [], 0)
        self.assert_rule((6, (), (), ()), (0, ()), [], [], 6)
        self.assert_not_safe(A, (4, (0, 2, 1)))

    def test_now_greater_than_latest(self):
        self.assert_rule(A, (11, (0, 2, 3)), [], [], 11)
        self.assert_rule(A, (140, (0, 2, 3)), [], [], 140)
        self.assert_rule(EMPTY, (3, ()), [], [], 3)
        for history in ((11, NONE), (11, (0, 2, None)), (11, (0, 2, 1)), (12, (9, 12, 12)), (12, (10, None, None))):
            self.assert_not_safe(A, history)

    def test_at_latest(self):
        self.assert_rule(A, (10, (7, 10, None)), ["c"], ["c"], 10)
        self.assert_rule((0, ("a", "b"), (), ()), (0, (None, None)), ["a", "b"], ["a", "b"], 0)
        self.assert_not_safe(A, (10, NONE))
        self.assert_not_safe(A, (10, (8, None, None)))

    def test_plans_that_cannot_be_kept(self):
        for plan in (D, E):
            self.assert_not_safe(plan, (0, NONE))
        self.assert_not_safe(G, (0, (None, None)))
        # The first moment is over, and what is left can be kept.
        self.assert_rule(G, (1, (0, None)), [], [], 2)

    def test_a_bound_that_ends_the_waiting(self):
        plan = (9, ("a", "b"), (("a", "b", 4), ("b", "a", -2), ("go", "a", 3)), ())
        self.assert_rule(plan, (0, (None, None)), ["a"], ["a"], 3)
        self.assert_rule(plan, (2, (1, None)), [], [], 5)
        self.assert_rule(plan, (3, (1, None)), ["b"], ["b"], 5)

    def test_against_the_player(self):
        safe_ones = several = 0
        plans = [made_plan(number, events=3, bounds=4, tasks=2, latest=5, slack=1) for number in range(300, 330)]
        plans += [made_plan(number, events=4, bounds=3, tasks=2, latest=6) for number in range(6)]
        plans += [notice_plan(number) for number in range(6)]
        for plan in plans:
            player = Player(plan)
            histories = list(player.histories(plan[0] + 1))
            for history in histories[:: 1 + len(histories) // 60]:
                if player.safe(history):
                    safe_ones += 1
                    several += len(player.advice(history)) > 1
                    self.assert_rule(
                        plan, history, player.startable(history), player.advice(history), player.wait_until(history)
                    )
                else:
                    self.assert_not_safe(plan, history)
        self.assertGreater(safe_ones, 200)
        self.assertGreater(several, 20)

    def test_waiting_up_to_a_moment_is_safe_and_no_longer(self):
        for number in range(40):
            plan = made_plan(number, events=5, bounds=4, tasks=3, latest=12)
            player = Player(plan)
            if player.safe(player.nothing):
                last = wait_until(plan, player.nothing)
                for now in range(last + 1):
                    self.assertIs(safe(plan, (now, player.nothing[1])), True)
                if last < plan[0]:
                    self.assertIs(safe(plan, (last + 1, player.nothing[1])), False)

    def test_wrong_values(self):
        for value in OTHERS:
            for call in (startable, advice, wait_until):
                with self.assertRaises(InvalidPlan):
                    call(value, (0, NONE))
                with self.assertRaises(InvalidHistory):
                    call(A, value)
                with self.assertRaises(InvalidHistory):
                    call(D, value)


if __name__ == "__main__":
    unittest.main()
