"""[12]: tables and papers say just what playing a plan in all ways says."""

import unittest

from startnow.tables import is_paper, is_table, paper, table
from tests.game import can_be_kept
from tests.naive import naive_table
from tests.samples import A, CHAIN, D, E, EMPTY, G, made_plan, with_part


class Game(unittest.TestCase):
    def assert_agrees(self, plan):
        with self.subTest(plan=plan):
            told = paper(plan)
            kept = can_be_kept(plan)
            self.assertEqual(told is None, kept)
            if kept:
                self.assertEqual(table(plan), naive_table(plan))
                self.assertTrue(is_table(plan, table(plan)))
            else:
                self.assertTrue(is_paper(plan, told))
        return kept

    def test_samples(self):
        for plan in (A, D, E, G, EMPTY, CHAIN):
            self.assert_agrees(with_part(plan, (0,), min(plan[0], 9)))

    def test_made_plans(self):
        kept = [
            self.assert_agrees(made_plan(number, events=4, bounds=6, tasks=3, latest=8, slack=1, time=4))
            for number in range(700)
        ]
        self.assertGreater(sum(kept), 200)
        self.assertLess(sum(kept), 600)

    def test_made_plans_with_three_tasks(self):
        for number in range(1000, 1080):
            self.assert_agrees(made_plan(number, events=5, bounds=6, tasks=4, latest=9, slack=1, time=4))


if __name__ == "__main__":
    unittest.main()
