"""[2]: plans at the documented limits and somewhat beyond them, in all functions."""

import unittest

from startnow.plans import broken, is_plan, is_run, ours
from startnow.tables import is_paper, is_table, paper, table
from tests.naive import naive_is_table, naive_table
from tests.samples import D, LIMIT, limit_plan, with_part


def longest_run(plan):
    """The run in which our events start at 0 and each task takes its greatest time."""
    moments = {event: 0 for event in ours(plan)}
    while len(moments) < len(plan[1]):
        for begin, end, _, greatest in plan[3]:
            if begin in moments:
                moments[end] = moments[begin] + greatest
    return tuple(moments[event] for event in plan[1])


class Limits(unittest.TestCase):
    def test_sizes(self):
        for plan in (LIMIT, limit_plan(1), limit_plan(2)):
            self.assertEqual((plan[0], len(plan[1]), len(plan[2]), len(plan[3])), (40, 7, 10, 3))
            self.assertTrue(is_plan(plan))

    def test_runs(self):
        for number in range(60):
            plan = limit_plan(number)
            run = longest_run(plan)
            self.assertTrue(is_run(plan, run))
            moments = dict(zip(plan[1], run), go=0)
            expected = [bound for bound in plan[2] if moments[bound[1]] > moments[bound[0]] + bound[2]]
            expected += [("go", event, 40) for event in plan[1] if moments[event] > 40]
            self.assertEqual(broken(plan, run), expected)
            for task in plan[3]:
                late = with_part(run, (plan[1].index(task[1]),), moments[task[1]] + 1)
                self.assertFalse(is_run(plan, late))

    def test_tables_and_papers(self):
        kept = 0
        for number in range(60):
            plan = limit_plan(number)
            with self.subTest(plan=plan):
                expected = naive_table(plan)
                told = paper(plan)
                if expected is None:
                    self.assertTrue(is_paper(plan, told))
                    self.assertFalse(is_table(plan, []))
                else:
                    kept += 1
                    self.assertIsNone(told)
                    self.assertEqual(table(plan), expected)
                    self.assertTrue(is_table(plan, expected[::-1]))
                    for k in range(0, len(expected), 9):
                        less = with_part(expected, (k, 3), expected[k][3] - 1)
                        self.assertEqual(is_table(plan, less), naive_is_table(plan, less))
                        self.assertFalse(is_table(plan, expected[:k] + expected[k + 1:]))
        self.assertGreater(kept, 15)
        self.assertLess(kept, 45)

    def test_a_paper_of_three_hundred_lines(self):
        lines, ring = paper(D)
        further = [(("go", "a", "", 10), "given", ()), (("b", "go", "", 0), "given", ())] * 150
        self.assertTrue(is_paper(D, ((lines + further)[:300], ring)))
        self.assertFalse(is_paper(D, ((lines + further)[:299] + [further[0] + (0,)], ring)))
        self.assertTrue(is_paper(D, (lines, ring * 100)))

    def test_extreme_mosts_and_times(self):
        names = tuple("abcdefg")
        tasks = (("a", "b", 1, 40), ("c", "d", 40, 40), ("e", "f", 1, 1))
        kept = (40, names, (("a", "b", 100), ("b", "a", 100), ("go", "g", 100)), tasks)
        self.assertEqual(table(kept), naive_table(kept))
        for bound in (("a", "b", -100), ("a", "go", -100), ("go", "a", -100), ("g", "a", -41), ("c", "d", 39)):
            plan = (40, names, (bound,), tasks)
            self.assertIsNone(naive_table(plan))
            self.assertTrue(is_paper(plan, paper(plan)))

    def test_somewhat_beyond(self):
        names = tuple("abcdefghij")
        bounds = tuple((x, y, 4) for x, y in zip(names, names[1:]))
        bounds += tuple((y, x, 9) for x, y in zip(names, names[1:]))
        tasks = (("a", "c", 1, 5), ("b", "d", 2, 4), ("c", "e", 3, 6), ("f", "g", 1, 1), ("h", "j", 1, 7))
        for latest in (5, 40, 60, 10 ** 6):
            plan = (latest, names, tuple(sorted(bounds)), tasks)
            expected = naive_table(plan)
            if expected is None:
                self.assertTrue(is_paper(plan, paper(plan)))
            else:
                self.assertEqual(table(plan), expected)
                self.assertTrue(is_table(plan, expected))


if __name__ == "__main__":
    unittest.main()
