"""[7]: what is a history, and which histories are safe."""

import unittest

from startnow.errors import InvalidHistory, InvalidPlan
from startnow.histories import is_history, safe, safe_to_wait
from tests.game import Player
from tests.samples import A, CHAIN, D, E, EMPTY, G, LIMIT, NONE, OTHERS, made_plan, notice_plan, with_part

ALONE = (5, ("a",), (("a", "go", -2), ("go", "a", 4)), ())
# c has to be started ahead of the end b, so waiting for it may be lucky.
AHEAD = (10, ("a", "b", "c"), (("b", "c", -1),), (("a", "b", 2, 4),))


class IsHistory(unittest.TestCase):
    def assert_history(self, plan, value, expected):
        with self.subTest(plan=plan, value=value):
            self.assertIs(is_history(plan, value), expected)
            if not expected:
                for call in (safe, safe_to_wait):
                    with self.assertRaises(InvalidHistory):
                        call(plan, value)

    def test_the_examples(self):
        self.assert_history(A, (3, (0, None, None)), False)
        for history in ((2, (0, None, 0)), (2, (0, None, None)), (0, NONE), (2, (0, 2, None)), (7, NONE)):
            self.assert_history(A, history, True)

    def test_now(self):
        for now, expected in ((-1, False), (0, True), (1, True), (10, True), (11, True), (140, True), (10 ** 9, True)):
            self.assert_history(A, (now, NONE), expected)
        for now in (None, True, False, 0.0, "0", "", (), [], (0,), 1j, b"0"):
            self.assert_history(A, (now, NONE), False)

    def test_each_moment(self):
        good = (6, (3, 5, 4))
        self.assert_history(A, good, True)
        for place in range(3):
            for wrong in (7, 100, -1, -7, True, False, 3.0, "3", "", (), (3,), [], [3], {}, b"3", 1j, float("nan")):
                self.assert_history(A, with_part(good, (1, place), wrong), False)
        self.assert_history(A, (6, (None, None, 6)), True)
        self.assert_history(A, (6, (None, None, 7)), False)
        self.assert_history(A, (1, (None, None, True)), False)
        self.assert_history(A, (0, (None, None, False)), False)

    def test_moments_of_all_times_up_to_now(self):
        for now in range(5):
            for moment in range(-2, 8):
                self.assert_history(ALONE, (now, (moment,)), 0 <= moment <= now)

    def test_an_end_without_its_begin(self):
        self.assert_history(A, (6, (None, 5, 4)), False)
        self.assert_history(A, (6, (None, 5, None)), False)
        self.assert_history(A, (6, (None, None, 4)), True)
        self.assert_history(CHAIN, (6, (0, None, 3, None)), False)
        self.assert_history(CHAIN, (6, (0, 1, None, 4)), False)

    def test_times_of_tasks(self):
        for time in range(-1, 6):
            self.assert_history(A, (8, (3, 3 + time, None)), 1 <= time <= 3)
        for end, expected in ((4, False), (5, True), (6, False)):
            self.assert_history(CHAIN, (8, (1, 2, 3, end)), expected)
        self.assert_history(CHAIN, (8, (1, 2, 3, None)), False)
        self.assert_history(CHAIN, (4, (1, 2, 3, None)), True)

    def test_running_tasks(self):
        for now in range(3, 9):
            self.assert_history(A, (now, (3, None, None)), now < 6)
        for now in range(2, 7):
            self.assert_history(CHAIN, (now, (1, 2, None, None)), now < 5)
        self.assert_history(CHAIN, (0, (0, None, None, None)), True)
        self.assert_history(CHAIN, (1, (0, None, None, None)), True)
        self.assert_history(CHAIN, (2, (0, None, None, None)), False)

    def test_ends_that_come_now(self):
        self.assert_history(A, (3, (0, 3, None)), True)
        self.assert_history(A, (1, (0, 1, None)), True)
        self.assert_history(A, (0, (0, 0, None)), False)

    def test_each_task_of_several(self):
        good = (14, (8, 13, 10, 9, 14, None, None))
        self.assert_history(LIMIT, good, True)
        for place, moment in ((1, 10), (1, None), (2, 9), (2, None), (4, 13), (2, 14)):
            expected = (place, moment) == (1, None)
            self.assert_history(LIMIT, with_part(good, (1, place), moment), expected)
        self.assert_history(LIMIT, with_part(with_part(good, (0,), 17), (1, 1), None), False)

    def test_lengths(self):
        for moments in ((), (0,), (0, 1), (0, 1, 2, 2), (None,) * 4, (None,) * 2):
            self.assert_history(A, (5, moments), False)
        for value in ((), (0,), (0, NONE, NONE), (0, NONE, None), (NONE,), (NONE, 0), NONE, (0, 0, 2, 2)):
            self.assert_history(A, value, False)
        self.assert_history(EMPTY, (0, ()), True)
        self.assert_history(EMPTY, (9, ()), True)
        self.assert_history(EMPTY, (0, (None,)), False)

    def test_other_kinds(self):
        for value in OTHERS:
            self.assert_history(A, value, False)
            self.assert_history(EMPTY, value, False)
            self.assert_history(A, (0, value), False)
            self.assert_history(A, (value, NONE), isinstance(value, int) and value is not True and value is not False
                                and value >= 0)
        self.assert_history(A, [2, (0, 2, None)], False)
        self.assert_history(A, (2, [0, 2, None]), False)
        self.assert_history(EMPTY, (0, []), False)
        self.assert_history(EMPTY, (0, None), False)

    def test_plans_that_cannot_be_kept_have_histories(self):
        for plan in (D, E):
            self.assert_history(plan, (2, (0, 2, None)), True)
            self.assertIs(safe(plan, (0, NONE)), False)

    def test_what_is_no_plan(self):
        for plan in OTHERS:
            for call in (is_history, safe, safe_to_wait):
                with self.assertRaises(InvalidPlan):
                    call(plan, (0, NONE))
                with self.assertRaises(InvalidPlan):
                    call(plan, None)


class Safe(unittest.TestCase):
    def assert_safe(self, plan, history, expected, waiting):
        with self.subTest(plan=plan, history=history):
            self.assertIs(safe(plan, history), expected)
            self.assertIs(safe_to_wait(plan, history), waiting)

    def test_the_examples(self):
        self.assert_safe(A, (2, (0, None, 0)), False, False)
        self.assert_safe(A, (2, (0, None, None)), True, True)
        self.assert_safe(A, (7, NONE), True, False)
        self.assert_safe(A, (6, NONE), True, True)
        self.assert_safe(A, (8, NONE), False, False)

    def test_what_is_started_now_counts(self):
        self.assert_safe(ALONE, (1, (None,)), True, True)
        self.assert_safe(ALONE, (1, (1,)), False, False)
        self.assert_safe(ALONE, (2, (2,)), True, True)
        self.assert_safe(ALONE, (3, (None,)), True, True)
        self.assert_safe(ALONE, (4, (None,)), True, False)
        self.assert_safe(ALONE, (5, (None,)), False, False)
        self.assert_safe(ALONE, (5, (4,)), True, True)
        self.assert_safe(ALONE, (5, (5,)), False, False)

    def test_ends_that_come_now(self):
        # c may still be started at the very moment of the end, and up to two moments behind it.
        for now, waiting in ((2, True), (3, True), (4, False)):
            self.assert_safe(A, (now, (0, 2, None)), True, waiting)
        self.assert_safe(A, (5, (0, 2, None)), False, False)
        self.assert_safe(A, (2, (0, 2, 1)), False, False)
        self.assert_safe(A, (2, (0, 2, 2)), True, True)

    def test_least_times_that_are_left(self):
        # A history that no strategy would have come to may be safe, as its luck is known by now.
        self.assert_safe(AHEAD, (1, (0, None, None)), True, False)
        self.assert_safe(AHEAD, (2, (0, None, None)), True, False)
        self.assert_safe(AHEAD, (3, (0, None, None)), True, False)
        self.assert_safe(AHEAD, (2, (0, 2, None)), False, False)
        self.assert_safe(AHEAD, (2, (0, 2, 1)), True, True)
        self.assert_safe(AHEAD, (2, (0, None, 2)), True, True)
        # The task has to end at the next moment: so c can be started three moments behind a.
        late = (10, ("a", "b", "c"), (("b", "c", -1), ("c", "a", -3)), (("a", "b", 2, 4),))
        self.assert_safe(late, (0, NONE), False, False)
        self.assert_safe(late, (1, (0, None, None)), False, False)
        self.assert_safe(late, (2, (0, None, None)), False, False)
        self.assert_safe(late, (3, (0, None, None)), True, False)
        self.assert_safe(late, (3, (0, 3, None)), False, False)
        self.assert_safe(late, (4, (0, 4, 3)), True, True)

    def test_behind_latest(self):
        self.assert_safe(A, (11, (0, 2, 3)), True, True)
        self.assert_safe(A, (140, (7, 10, 10)), True, True)
        self.assert_safe(A, (11, (0, 2, 1)), False, False)
        self.assert_safe(A, (11, (0, 2, 5)), False, False)
        self.assert_safe(A, (11, (8, 11, 11)), False, False)
        self.assert_safe(A, (11, (7, 10, 11)), False, False)
        self.assert_safe(A, (11, (7, 10, None)), False, False)
        self.assert_safe(A, (11, (9, None, None)), False, False)
        self.assert_safe(A, (11, NONE), False, False)
        self.assert_safe(EMPTY, (1, ()), True, True)
        # A run that keeps the plan is safe even if no strategy keeps it.
        self.assert_safe(D, (11, (0, 2, 1)), True, True)
        self.assert_safe(D, (10, (0, 2, 1)), True, True)
        self.assert_safe(D, (11, (0, 3, 0)), False, False)

    def test_at_latest(self):
        self.assert_safe(A, (10, (7, 10, None)), True, False)
        self.assert_safe(A, (10, (7, 10, 10)), True, True)
        self.assert_safe(A, (10, (8, None, None)), False, False)
        self.assert_safe(A, (10, (6, 9, None)), True, False)
        self.assert_safe(EMPTY, (0, ()), True, True)
        self.assert_safe((0, ("a",), (), ()), (0, (None,)), True, False)

    def test_no_start_is_safe_without_a_strategy(self):
        self.assert_safe(G, (0, (None, None)), False, False)
        self.assert_safe(G, (1, (0, None)), True, True)
        self.assert_safe(G, (2, (0, 2)), True, True)
        self.assert_safe(G, (1, (0, 1)), False, False)

    def assert_as_played(self, plan, step):
        player = Player(plan)
        seen = 0
        for history in list(player.histories(plan[0] + 2))[::step]:
            with self.subTest(plan=plan, history=history):
                self.assertIs(is_history(plan, history), True)
                self.assertIs(safe(plan, history), player.safe(history))
                self.assertIs(safe_to_wait(plan, history), player.safe_to_wait(history))
                seen += player.safe(history)
        return seen

    def test_all_histories_of_small_plans_against_the_player(self):
        seen = sum(
            self.assert_as_played(made_plan(number, events=3, bounds=4, tasks=2, latest=number % 6, slack=1), 2)
            for number in range(90)
        )
        self.assertGreater(seen, 500)

    def test_histories_of_further_plans_against_the_player(self):
        for number in range(14):
            self.assert_as_played(made_plan(number, events=4, bounds=6, tasks=3, latest=6, slack=1, time=4), 23)
            self.assert_as_played(notice_plan(number), 151)


if __name__ == "__main__":
    unittest.main()
