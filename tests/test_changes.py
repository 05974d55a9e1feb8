"""[14] to [16]: how far a plan can be changed."""

import unittest

from startnow.errors import InvalidEvent, InvalidPlan, SameEvent
from startnow.histories import can_keep
from startnow.limits import barring, least_latest, least_most, least_notice, least_time, most_time
from startnow.plans import is_plan
from tests.game import can_be_kept
from tests.samples import A, CHAIN, D, E, EMPTY, G, LIMIT, OTHERS, limit_plan, made_plan, notice_plan, with_part

NO_EVENT = ["d", "", "A", "gone", "ab", "go ", None, True, False, 0, 1, -1, 1.5, b"a", (), ("a",), [], ["a"], {}, {"a": 1}]


def with_bound(plan, bound):
    """The plan with a further bound; the lesser most counts where it has one between these two already."""
    mosts = {(x, y): most for x, y, most in plan[2]}
    x, y, most = bound
    mosts[(x, y)] = min(most, mosts.get((x, y), most))
    return with_part(plan, (2,), tuple(sorted((x, y, most) for (x, y), most in mosts.items())))


def with_times(plan, end, least=None, greatest=None):
    tasks = [
        (start, stop, least or low, greatest or high) if stop == end else (start, stop, low, high)
        for start, stop, low, high in plan[3]
    ]
    return with_part(plan, (3,), tuple(sorted(tasks)))


def first_of(values):
    return next(iter(values), None)


def sought_most(kept, plan, x, y):
    return first_of(k for k in range(-plan[0], plan[0] + 1) if kept(with_bound(plan, (x, y, k))))


def sought_most_time(kept, plan, end):
    least = [task[2] for task in plan[3] if task[1] == end][0]
    return first_of(k for k in range(plan[0], least - 1, -1) if kept(with_times(plan, end, greatest=k)))


def sought_least_time(kept, plan, end):
    greatest = [task[3] for task in plan[3] if task[1] == end][0]
    return first_of(k for k in range(1, greatest + 1) if kept(with_times(plan, end, least=k)))


def sought_latest(kept, plan):
    return first_of(k for k in range(plan[0] + 1) if kept(with_part(plan, (0,), k)))


class LeastMost(unittest.TestCase):
    def assert_least(self, plan, x, y, expected):
        with self.subTest(plan=plan, x=x, y=y):
            self.assertEqual(least_most(plan, x, y), expected)
            if expected is not None:
                changed = with_bound(plan, (x, y, expected))
                self.assertTrue(is_plan(changed))
                self.assertIs(can_keep(changed), True)
                if expected > -plan[0]:
                    self.assertIs(can_keep(with_bound(plan, (x, y, expected - 1))), False)

    def test_the_examples(self):
        self.assert_least(A, "b", "c", 0)
        self.assert_least(D, "b", "c", None)

    def test_pairs_that_have_a_bound_either_way_round(self):
        # c may be started up to two moments behind b.
        self.assert_least(A, "c", "b", -2)
        self.assert_least(with_part(A, (2, 1, 2), 5), "c", "b", -2)
        self.assert_least(with_part(A, (2, 0, 2), 0), "c", "b", 0)
        # The bound that there is stays beside the further one.
        loose = (9, ("a", "b"), (("a", "b", -2), ("b", "a", 7)), ())
        self.assert_least(loose, "a", "b", -7)
        self.assert_least(loose, "b", "a", 2)
        self.assert_least((9, ("a", "b"), (("a", "b", -30),), ()), "a", "b", None)
        self.assert_least((9, ("a", "b"), (("a", "b", -30),), ()), "b", "a", None)

    def test_go(self):
        self.assert_least(A, "go", "a", 0)
        self.assert_least(A, "a", "go", -7)
        self.assert_least(A, "go", "b", 3)
        self.assert_least(A, "b", "go", -8)
        self.assert_least(CHAIN, "go", "a", 0)
        self.assert_least(CHAIN, "a", "go", -5)
        self.assert_least(CHAIN, "go", "d", 7)

    def test_tasks(self):
        self.assert_least(A, "a", "b", 3)
        self.assert_least(A, "b", "a", -1)
        self.assert_least(CHAIN, "a", "d", 7)
        self.assert_least(CHAIN, "d", "a", -4)
        self.assert_least(CHAIN, "b", "d", 5)

    def test_latest_0_and_no_tasks(self):
        self.assert_least((0, ("a", "b"), (), ()), "a", "b", 0)
        self.assert_least((0, ("a", "b"), (), ()), "go", "b", 0)
        self.assert_least((0, ("a", "b"), (("a", "b", -1),), ()), "go", "b", None)
        self.assert_least((6, ("a", "b"), (), ()), "a", "b", -6)
        self.assert_least((6, ("a", "b"), (), ()), "a", "go", -6)

    def test_all_pairs_of_small_plans_against_the_player(self):
        for number in range(25):
            plan = made_plan(number, events=3, bounds=3, tasks=2, latest=5, slack=1)
            places = ("go",) + plan[1]
            for x in places:
                for y in places:
                    if x != y:
                        self.assert_least(plan, x, y, sought_most(can_be_kept, plan, x, y))

    def test_no_event_and_equal_ones(self):
        for wrong in NO_EVENT:
            for plan in (A, D):
                for x, y in ((wrong, "a"), ("a", wrong), ("go", wrong), (wrong, "go"), (wrong, wrong)):
                    with self.subTest(x=x, y=y), self.assertRaises(InvalidEvent):
                        least_most(plan, x, y)
        for same in ("go", "a", "b", "c"):
            for plan in (A, D):
                with self.assertRaises(SameEvent):
                    least_most(plan, same, same)
        with self.assertRaises(SameEvent):
            least_most(EMPTY, "go", "go")
        with self.assertRaises(InvalidEvent):
            least_most(EMPTY, "go", "a")

    def test_what_is_no_plan(self):
        for value in OTHERS:
            for x, y in (("a", "b"), ("a", "a"), (None, "b")):
                with self.assertRaises(InvalidPlan):
                    least_most(value, x, y)


class Times(unittest.TestCase):
    def test_the_examples(self):
        self.assertEqual([most_time(A, "b"), least_time(A, "b"), most_time(D, "b"), least_time(D, "b")], [10, 1, 2, 2])

    def test_just_kept_and_one_less_or_more(self):
        for plan, end, most, least in ((A, "b", 10, 1), (D, "b", 2, 2), (with_part(D, (3, 0, 3), 5), "b", 2, 4)):
            self.assertEqual(most_time(plan, end), most)
            self.assertEqual(least_time(plan, end), least)
            self.assertIs(can_keep(with_times(plan, end, greatest=most)), True)
            self.assertIs(can_keep(with_times(plan, end, least=least)), True)
            if least > 1:
                self.assertIs(can_keep(with_times(plan, end, least=least - 1)), False)

    def test_latest(self):
        alone = (7, ("a", "b"), (), (("a", "b", 2, 3),))
        self.assertEqual(most_time(alone, "b"), 7)
        self.assertEqual(least_time(alone, "b"), 1)
        self.assertEqual(most_time(with_part(alone, (0,), 2), "b"), 2)
        self.assertIsNone(most_time(with_part(alone, (0,), 1), "b"))
        self.assertIsNone(least_time(with_part(alone, (0,), 2), "b"))
        self.assertIsNone(most_time((0, ("a", "b"), (), (("a", "b", 1, 1),)), "b"))
        self.assertIsNone(least_time((0, ("a", "b"), (), (("a", "b", 1, 1),)), "b"))

    def test_bounds(self):
        plan = (20, ("a", "b"), (("a", "b", 6), ("b", "a", -4)), (("a", "b", 4, 5),))
        self.assertEqual(most_time(plan, "b"), 6)
        self.assertEqual(least_time(plan, "b"), 4)
        self.assertIsNone(most_time(with_part(plan, (3, 0, 2), 3), "b"))
        self.assertEqual(least_time(with_part(plan, (3, 0, 2), 3), "b"), 4)
        self.assertIsNone(least_time(with_part(plan, (3, 0, 3), 7), "b"))

    def test_chains(self):
        self.assertEqual([most_time(CHAIN, end) for end in "bcd"], [15, 16, 15])
        self.assertEqual([least_time(CHAIN, end) for end in "bcd"], [1, 1, 1])
        late = with_part(CHAIN, (2, 0, 2), -9)
        self.assertEqual([least_time(late, end) for end in "bcd"], [1, 1, 2])
        self.assertEqual(sought_least_time(can_keep, late, "d"), 2)

    def test_small_plans_against_the_player(self):
        told = set()
        for number in range(120):
            plan = made_plan(number, events=4, bounds=4, tasks=3, latest=6, slack=1)
            for _, end, _, _ in plan[3]:
                with self.subTest(plan=plan, end=end):
                    most, least = most_time(plan, end), least_time(plan, end)
                    self.assertEqual(most, sought_most_time(can_be_kept, plan, end))
                    self.assertEqual(least, sought_least_time(can_be_kept, plan, end))
                    told |= {("most", most), ("least", least)}
        self.assertLessEqual({("most", None), ("most", 3), ("least", None), ("least", 1), ("least", 2)}, told)

    def test_what_is_no_end(self):
        for call in (most_time, least_time, least_notice):
            for wrong in NO_EVENT + ["a", "c", "go"]:
                for plan in (A, D):
                    with self.subTest(call=call, wrong=wrong), self.assertRaises(InvalidEvent):
                        call(plan, wrong)
            with self.assertRaises(InvalidEvent):
                call(EMPTY, "b")
            for value in OTHERS:
                with self.assertRaises(InvalidPlan):
                    call(value, "b")
                with self.assertRaises(InvalidPlan):
                    call(value, None)


class LeastLatest(unittest.TestCase):
    def test_the_example(self):
        self.assertEqual(least_latest(A), 3)

    def test_small_and_odd_ones(self):
        self.assertEqual(least_latest(EMPTY), 0)
        self.assertEqual(least_latest((9, ("a", "b"), (), ())), 0)
        self.assertEqual(least_latest((9, ("a", "b"), (("b", "go", -9),), ())), 9)
        self.assertIsNone(least_latest((8, ("a", "b"), (("b", "go", -9),), ())))
        self.assertEqual(least_latest(CHAIN), 7)
        self.assertEqual(least_latest(with_part(CHAIN, (0,), 7)), 7)
        self.assertIsNone(least_latest(with_part(CHAIN, (0,), 6)))
        for plan in (D, E, G):
            self.assertIsNone(least_latest(plan))

    def test_small_plans_against_the_player(self):
        for number in range(60):
            plan = made_plan(number, events=4, bounds=4, tasks=2, latest=8, slack=1)
            self.assertEqual(least_latest(plan), sought_latest(can_be_kept, plan))

    def test_what_is_no_plan(self):
        for value in OTHERS:
            with self.assertRaises(InvalidPlan):
                least_latest(value)


class LeastNotice(unittest.TestCase):
    def assert_as_played(self, plan, end):
        """The answer is that of the player, who sees the end so many moments ahead."""
        least = [task[2] for task in plan[3] if task[1] == end][0]
        expected = first_of(notice for notice in range(least) if can_be_kept(plan, {end: notice}))
        with self.subTest(plan=plan, end=end):
            self.assertEqual(least_notice(plan, end), expected)
        return expected

    def test_the_examples(self):
        self.assertEqual(least_notice(A, "b"), 0)
        self.assertEqual(least_notice(E, "b"), 1)

    def test_each_notice_up_to_the_least_time_less_one(self):
        for ahead in range(7):
            plan = (9, ("a", "b", "c"), (("b", "c", -ahead), ("c", "b", ahead)), (("a", "b", 5, 7),))
            expected = ahead if ahead < 5 else None
            self.assertEqual(least_notice(plan, "b"), expected)
            self.assertEqual(self.assert_as_played(plan, "b"), expected)

    def test_plans_that_can_be_kept_need_none(self):
        self.assertEqual([least_notice(CHAIN, end) for end in "bcd"], [0, 0, 0])
        self.assertEqual([least_notice(LIMIT, end) for end in "bce"], [0, 0, 0])

    def test_plans_that_no_notice_helps(self):
        self.assertIsNone(least_notice(G, "b"))
        self.assertIsNone(least_notice(D, "b"))
        self.assertIsNone(least_notice(with_part(CHAIN, (0,), 6), "c"))

    def test_a_notice_of_another_task_does_not_help(self):
        plan = (12, ("a", "b", "c", "d"), (("b", "d", -1), ("d", "b", 1)), (("a", "b", 3, 5), ("a", "c", 3, 5)))
        self.assertEqual(least_notice(plan, "b"), 1)
        self.assertIsNone(least_notice(plan, "c"))

    def test_chains(self):
        # d comes two moments ahead of c, the end of a task that begins at an end.
        plan = (12, ("a", "b", "c", "d"), (("c", "d", -2), ("d", "c", 2)), (("a", "b", 1, 2), ("b", "c", 3, 4)))
        self.assertEqual(self.assert_as_played(plan, "c"), 2)
        self.assertIsNone(self.assert_as_played(plan, "b"))
        # d comes ahead of the end b, at which a further task begins.
        plan = (12, ("a", "b", "c", "d"), (("b", "d", -1), ("d", "b", 1)), (("a", "b", 2, 3), ("b", "c", 3, 4)))
        self.assertEqual(self.assert_as_played(plan, "b"), 1)
        self.assertIsNone(self.assert_as_played(plan, "c"))

    def test_small_plans_against_the_player(self):
        told = [
            self.assert_as_played(plan, end)
            for plan in [notice_plan(number) for number in range(220)]
            for _, end, _, _ in plan[3]
        ]
        for answer in (None, 0, 1, 2, 3):
            self.assertGreater(told.count(answer), 3, answer)


class Barring(unittest.TestCase):
    def assert_barring(self, plan, expected):
        with self.subTest(plan=plan):
            self.assertEqual(barring(plan), expected)
            self.assertIs(can_keep(with_part(plan, (2,), tuple(expected))), False)
            for bound in expected:
                rest = tuple(other for other in expected if other != bound)
                self.assertIs(can_keep(with_part(plan, (2,), rest)), True)

    def test_the_examples(self):
        self.assert_barring(D, [("b", "c", -1), ("c", "b", 2)])
        self.assertIsNone(barring(A))
        self.assert_barring((0, ("a", "b"), (("a", "b", 5),), (("a", "b", 1, 2),)), [])

    def test_plans_that_can_be_kept(self):
        for plan in (EMPTY, CHAIN, LIMIT):
            self.assertIsNone(barring(plan))

    def test_plans_that_are_barred_without_any_bound(self):
        self.assert_barring((1, ("a", "b"), (), (("a", "b", 1, 2),)), [])
        self.assert_barring(with_part(CHAIN, (0,), 6), [])

    def test_a_bound_alone(self):
        self.assert_barring(G, [("b", "a", -2)])
        self.assert_barring((5, ("a", "b"), (("a", "b", 3), ("a", "go", -6)), ()), [("a", "go", -6)])

    def test_the_last_ones_are_left_out_first(self):
        # Each of the three bounds bars the plan alone: the first one is left.
        plan = (5, ("a", "b", "c"), (("a", "go", -6), ("b", "go", -7), ("c", "go", -8)), ())
        self.assert_barring(plan, [("a", "go", -6)])
        # The first one is needed with either of the others.
        plan = (9, ("a", "b", "c"), (("a", "b", -3), ("b", "a", 2), ("b", "c", 0), ("c", "a", 2)), ())
        self.assert_barring(plan, [("a", "b", -3), ("b", "a", 2)])
        plan = with_part(plan, (2, 1, 2), 3)
        self.assert_barring(plan, [("a", "b", -3), ("b", "c", 0), ("c", "a", 2)])

    def test_against_the_rule_with_the_player(self):
        barred = 0
        for number in range(150):
            plan = made_plan(number, events=4, bounds=6, tasks=2, latest=7, slack=0)
            if can_be_kept(plan):
                self.assertIsNone(barring(plan))
                continue
            left = list(plan[2])
            for bound in plan[2][::-1]:
                rest = tuple(other for other in left if other != bound)
                if not can_be_kept(with_part(plan, (2,), rest)):
                    left.remove(bound)
            barred += len(left) > 1
            self.assert_barring(plan, left)
        self.assertGreater(barred, 20)

    def test_twenty_bounds(self):
        names = tuple("abcdefg")
        pairs = [(x, y) for x in names for y in names if x < y][:20]
        bounds = [(x, y, -1) for x, y in pairs]
        # Five moments are needed from the first of the six events that follow one another to the last one.
        self.assert_barring((4, names, tuple(bounds), ()), [(x, y, -1) for x, y in zip(names[:6], names[1:6])])
        self.assertIsNone(barring((5, names, tuple(bounds), ())))

    def test_what_is_no_plan(self):
        for value in OTHERS:
            with self.assertRaises(InvalidPlan):
                barring(value)


class PlansAtTheLimits(unittest.TestCase):
    def test_the_answers_are_the_first_that_can_be_kept(self):
        for number in (0, 1, 2, 3, 5, 8):
            plan = limit_plan(number)
            end = plan[3][number // 3][1]
            with self.subTest(plan=plan):
                for x, y in (("a", "g"), ("go", end), (end, "c" if end != "c" else "d")):
                    self.assertEqual(least_most(plan, x, y), sought_most(can_keep, plan, x, y))
                self.assertEqual(most_time(plan, end), sought_most_time(can_keep, plan, end))
                self.assertEqual(least_time(plan, end), sought_least_time(can_keep, plan, end))
                self.assertEqual(least_latest(plan), sought_latest(can_keep, plan))


if __name__ == "__main__":
    unittest.main()
