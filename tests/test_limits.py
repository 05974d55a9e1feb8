"""[2]: plans at the documented limits and somewhat beyond them, in all functions."""

import unittest

from startnow.careful import alike, gap, many_runs, parting_run
from startnow.errors import NotKept, NotSafe
from startnow.histories import advice, blame, can_keep, is_history, played, safe, safe_to_wait, startable, wait_until
from startnow.limits import barring, least_latest, least_most, least_notice, least_time, most_time
from startnow.plans import broken, is_plan, is_run, ours
from startnow.tables import is_paper, is_table, paper, table
from tests.naive import naive_is_table, naive_table
from tests.game import Player
from tests.samples import D, LIMIT, limit_plan, with_part


def longest_run(plan):
    """The run in which our events start at 0 and each task takes its greatest time."""
    moments = {event: 0 for event in ours(plan)}
    while len(moments) < len(plan[1]):
        for begin, end, _, greatest in plan[3]:
            if begin in moments:
                moments[end] = moments[begin] + greatest
    return tuple(moments[event] for event in plan[1])


class Limits(unittest.TestCase):
    def test_sizes(self):
        for plan in (LIMIT, limit_plan(1), limit_plan(2)):
            self.assertEqual((plan[0], len(plan[1]), len(plan[2]), len(plan[3])), (40, 7, 10, 3))
            self.assertTrue(is_plan(plan))

    def test_runs(self):
        for number in range(60):
            plan = limit_plan(number)
            run = longest_run(plan)
            self.assertTrue(is_run(plan, run))
            moments = dict(zip(plan[1], run), go=0)
            expected = [bound for bound in plan[2] if moments[bound[1]] > moments[bound[0]] + bound[2]]
            expected += [("go", event, 40) for event in plan[1] if moments[event] > 40]
            self.assertEqual(broken(plan, run), expected)
            for task in plan[3]:
                late = with_part(run, (plan[1].index(task[1]),), moments[task[1]] + 1)
                self.assertFalse(is_run(plan, late))

    def test_tables_and_papers(self):
        kept = 0
        for number in range(60):
            plan = limit_plan(number)
            with self.subTest(plan=plan):
                expected = naive_table(plan)
                told = paper(plan)
                if expected is None:
                    self.assertTrue(is_paper(plan, told))
                    self.assertFalse(is_table(plan, []))
                else:
                    kept += 1
                    self.assertIsNone(told)
                    self.assertEqual(table(plan), expected)
                    self.assertTrue(is_table(plan, expected[::-1]))
                    for k in range(0, len(expected), 9):
                        less = with_part(expected, (k, 3), expected[k][3] - 1)
                        self.assertEqual(is_table(plan, less), naive_is_table(plan, less))
                        self.assertFalse(is_table(plan, expected[:k] + expected[k + 1:]))
        self.assertGreater(kept, 15)
        self.assertLess(kept, 45)

    def test_a_paper_of_three_hundred_lines(self):
        lines, ring = paper(D)
        further = [(("go", "a", "", 10), "given", ()), (("b", "go", "", 0), "given", ())] * 150
        self.assertTrue(is_paper(D, ((lines + further)[:300], ring)))
        self.assertFalse(is_paper(D, ((lines + further)[:299] + [further[0] + (0,)], ring)))
        self.assertTrue(is_paper(D, (lines, ring * 100)))

    def test_extreme_mosts_and_times(self):
        names = tuple("abcdefg")
        tasks = (("a", "b", 1, 40), ("c", "d", 40, 40), ("e", "f", 1, 1))
        kept = (40, names, (("a", "b", 100), ("b", "a", 100), ("go", "g", 100)), tasks)
        self.assertEqual(table(kept), naive_table(kept))
        for bound in (("a", "b", -100), ("a", "go", -100), ("go", "a", -100), ("g", "a", -41), ("c", "d", 39)):
            plan = (40, names, (bound,), tasks)
            self.assertIsNone(naive_table(plan))
            self.assertTrue(is_paper(plan, paper(plan)))

    def test_somewhat_beyond(self):
        names = tuple("abcdefghij")
        bounds = tuple((x, y, 4) for x, y in zip(names, names[1:]))
        bounds += tuple((y, x, 9) for x, y in zip(names, names[1:]))
        tasks = (("a", "c", 1, 5), ("b", "d", 2, 4), ("c", "e", 3, 6), ("f", "g", 1, 1), ("h", "j", 1, 7))
        for latest in (5, 40, 60, 10 ** 6):
            plan = (latest, names, tuple(sorted(bounds)), tasks)
            expected = naive_table(plan)
            if expected is None:
                self.assertTrue(is_paper(plan, paper(plan)))
            else:
                self.assertEqual(table(plan), expected)
                self.assertTrue(is_table(plan, expected))

    def test_histories(self):
        kept = 0
        for number in range(24):
            plan = limit_plan(number)
            nothing = (0, (None,) * 7)
            with self.subTest(plan=plan):
                self.assertEqual(can_keep(plan), naive_table(plan) is not None)
                self.assertEqual(safe(plan, nothing), can_keep(plan))
                run = longest_run(plan)
                late = (140, run)
                self.assertTrue(is_history(plan, late))
                self.assertEqual(safe(plan, late), broken(plan, run) == [])
                self.assertEqual(safe_to_wait(plan, late), broken(plan, run) == [])
                self.assertFalse(safe(plan, (140, nothing[1])))
                if not can_keep(plan):
                    self.assertEqual(startable(plan, nothing), [])
                    self.assertRaises(NotSafe, advice, plan, nothing)
                    self.assertRaises(NotKept, played, plan, tuple(task[2] for task in plan[3]))
                    self.assertEqual(blame(plan, run), (0, "go"))
                    continue
                kept += 1
                self.assert_played_well(plan)
        self.assertGreater(kept, 8)

    def assert_played_well(self, plan):
        """The rule of [8], followed moment by moment, makes the run that played tells."""
        player = Player(plan)
        for times in (tuple(task[2] for task in plan[3]), tuple(task[3] for task in plan[3])):
            history = player.nothing
            last = wait_until(plan, history)
            self.assertTrue(safe(plan, (last, history[1])))
            while None in history[1]:
                self.assertTrue(safe(plan, history))
                for event in advice(plan, history):
                    self.assertEqual(startable(plan, history)[0], event)
                    history = player.at(history, [event])
                self.assertEqual(startable(plan, history), [])
                if None in history[1]:
                    self.assertTrue(safe_to_wait(plan, history))
                    now = history[0] + 1
                    begins = [player.moment(history[1], task[0]) for task in plan[3]]
                    ends = [
                        task[1] for task, begin, time in zip(plan[3], begins, times)
                        if begin is not None and begin + time == now
                    ]
                    history = player.at((now, history[1]), ends)
            self.assertEqual(played(plan, times), history[1])
            self.assertEqual(broken(plan, history[1]), [])
            self.assertIsNone(blame(plan, history[1]))
            self.assertEqual(wait_until(plan, history), 40)

    def test_runs_up_to_moment_140(self):
        run = (50, 53, 57, 80, 63, 100, 140)
        self.assertEqual(blame(LIMIT, run)[1], "wait")
        self.assertLessEqual(blame(LIMIT, run)[0], 8)
        self.assertTrue(is_history(LIMIT, (140, run)))
        self.assertFalse(is_history(LIMIT, (139, run)))
        self.assertFalse(safe(LIMIT, (140, run)))

    def test_changes(self):
        for number in range(16):
            plan = limit_plan(number)
            kept = can_keep(plan)
            with self.subTest(plan=plan):
                told = barring(plan)
                self.assertEqual(told is None, kept)
                if not kept:
                    self.assertFalse(can_keep(with_part(plan, (2,), tuple(told))))
                self.assertEqual(least_latest(plan) is None, not kept)
                for x, y in (("a", "b"), ("g", "go")):
                    self.assertEqual(least_most(plan, x, y) is None, not kept)
                for _, end, least, greatest in plan[3]:
                    most, shortest, notice = most_time(plan, end), least_time(plan, end), least_notice(plan, end)
                    self.assertEqual(most is not None and most >= greatest, kept)
                    self.assertEqual(shortest is not None and shortest <= least, kept)
                    self.assertEqual(notice == 0, kept)

    def test_what_can_come_about(self):
        names = ("a", "b", "c", "d")
        loose = (6, names, (), (("a", "d", 1, 6),))
        self.assertEqual(many_runs(loose), 49 * 6)
        self.assertEqual(gap(loose, "a", "d"), (1, 6))
        self.assertEqual(gap(loose, "b", "c"), (-6, 6))
        self.assertTrue(alike(loose, with_part(loose, (2,), (("go", "a", 0),))))
        self.assertEqual(parting_run(loose, with_part(loose, (2,), (("b", "c", 5),))), (0, 0, 6, 1))
        pairs = [(x, y) for x in ("go",) + names for y in ("go",) + names if x != y]
        tight = with_part(loose, (2,), tuple(sorted((x, y, 6) for x, y in pairs)))
        self.assertEqual(len(tight[2]), 20)
        self.assertTrue(alike(loose, tight))


if __name__ == "__main__":
    unittest.main()
