"""[10] to [12]: the given and longest edges, the rules, table and is_table."""

import unittest
from random import Random

from startnow.errors import NotKept
from startnow.tables import is_paper, is_table, table
from tests.naive import coming_edges, has_ring, naive_is_table, naive_table, starting_edges
from tests.samples import A, CHAIN, D, E, EMPTY, G, LIMIT, OTHERS, made_plan, with_part

TABLE_OF_A = [
    ("a", "b", "", 3), ("a", "c", "", 5), ("a", "go", "", 0), ("b", "a", "", -1), ("b", "a", "b", -3),
    ("b", "c", "", 2), ("b", "go", "", -1), ("c", "a", "", -1), ("c", "a", "b", -3), ("c", "b", "", 0),
    ("c", "go", "", -1), ("go", "a", "", 7), ("go", "a", "b", 7), ("go", "b", "", 10), ("go", "c", "", 10),
]
ALONE = (10, ("a",), (), ())
# No run keeps these: the bounds alone are a ring, and so are the latest moment and the task.
RING = (10, ("a", "b", "c"), (("a", "b", 1), ("b", "c", -3), ("c", "a", 1)), ())
SHORT = (3, ("a", "b"), (), (("a", "b", 1, 4),))
# One end has to wait for the other one: the loop that shows it is a waiting edge.
TWINS = (8, ("b", "h", "l"), (("h", "l", 0),), (("b", "h", 2, 3), ("b", "l", 1, 3)))


class Table(unittest.TestCase):
    def test_the_example(self):
        self.assertEqual(table(A), TABLE_OF_A)
        self.assertIs(type(table(A)), list)

    def test_no_events(self):
        self.assertEqual(table(EMPTY), [])
        self.assertEqual(table((7, (), (), ())), [])

    def test_given_edges_of_events_and_latest(self):
        self.assertEqual(table(ALONE), [("a", "go", "", 0), ("go", "a", "", 10)])
        self.assertEqual(
            table((0, ("a", "b"), (), ())),
            [("a", "b", "", 0), ("a", "go", "", 0), ("b", "a", "", 0), ("b", "go", "", 0),
             ("go", "a", "", 0), ("go", "b", "", 0)],
        )

    def test_bounds_with_go(self):
        self.assertEqual(
            table((10, ("a",), (("a", "go", -3), ("go", "a", 6)), ())), [("a", "go", "", -3), ("go", "a", "", 6)]
        )
        # Bounds that say less than the edges of latest and of the beginning.
        self.assertEqual(
            table((10, ("a",), (("a", "go", 3), ("go", "a", 16)), ())), [("a", "go", "", 0), ("go", "a", "", 10)]
        )

    def test_sums_of_plain_edges(self):
        self.assertEqual(
            table((9, ("a", "b"), (("a", "b", -2), ("b", "a", 4)), ())),
            [("a", "b", "", -2), ("a", "go", "", -2), ("b", "a", "", 4), ("b", "go", "", 0),
             ("go", "a", "", 9), ("go", "b", "", 7)],
        )

    def test_given_and_longest_edges_of_a_task(self):
        self.assertEqual(
            table((10, ("a", "b"), (), (("a", "b", 2, 3),))),
            [("a", "b", "", 3), ("a", "go", "", 0), ("b", "a", "", -2), ("b", "a", "b", -3), ("b", "go", "", -2),
             ("go", "a", "", 7), ("go", "a", "b", 7), ("go", "b", "", 10)],
        )

    def test_early(self):
        # The bound b to c with -1 makes us start c when the task has taken one moment less than its least.
        plan = (10, ("a", "b", "c"), (("b", "c", -1),), (("a", "b", 3, 5),))
        self.assertIn(("a", "c", "", 2), table(plan))
        # With 0 it is enough to start c when the end is seen.
        plan = (10, ("a", "b", "c"), (("b", "c", 0),), (("a", "b", 3, 5),))
        self.assertIn(("a", "c", "", 5), table(plan))

    def test_early_from_waiting_edges_of_other_tasks(self):
        # The end b waits for d, so a waits with it, but for the least time of its own task.
        plan = (10, ("a", "b", "c", "d"), (("b", "d", 0),), (("a", "b", 1, 2), ("c", "d", 1, 3)))
        told = table(plan)
        self.assertIn(("b", "c", "d", -3), told)
        self.assertIn(("a", "c", "d", -2), told)
        self.assertIn(("a", "c", "", -1), told)

    def test_sure(self):
        # c waits for b or three moments; one moment is sure, as the task takes it at least.
        self.assertIn(("c", "a", "b", -3), table(A))
        self.assertIn(("c", "a", "", -1), table(A))
        # b may come two moments behind c: c waits for one moment, which the task surely takes.
        told = table((10, ("a", "b", "c"), (("c", "b", 2),), (("a", "b", 2, 3),)))
        self.assertIn(("c", "a", "b", -1), told)
        self.assertIn(("c", "a", "", -1), told)
        told = table((10, ("a", "b", "c"), (("c", "b", 9),), (("a", "b", 2, 3),)))
        self.assertIn(("c", "a", "b", 6), told)
        self.assertIn(("c", "a", "", 6), told)

    def test_chains_and_plans_at_the_limits(self):
        for plan in (CHAIN, LIMIT, E[:2] + ((),) + E[3:]):
            self.assertEqual(table(plan), naive_table(plan))
            self.assertTrue(is_table(plan, table(plan)))
        self.assertIn(("d", "b", "c", -5), table(CHAIN))
        self.assertIn(("go", "d", "", 12), table(CHAIN))

    def test_it_ascends_and_holds_no_pair_twice(self):
        for number in range(60):
            plan = made_plan(number, events=5, bounds=3, tasks=3, latest=12)
            if naive_table(plan) is not None:
                told = table(plan)
                self.assertEqual(told, sorted(told))
                self.assertEqual(len(told), len({edge[:3] for edge in told}))
                self.assertTrue(all(edge[0] != edge[1] for edge in told))

    def test_plans_that_cannot_be_kept(self):
        for plan in (D, E, G, RING, SHORT, TWINS):
            with self.subTest(plan=plan):
                with self.assertRaises(NotKept) as caught:
                    table(plan)
                self.assertIs(is_paper(plan, caught.exception.reason), True)

    def test_just_kept_and_just_not(self):
        for most, kept in ((-3, False), (-2, False), (-1, True), (0, True), (5, True)):
            self.assert_kept((10, ("a", "b"), (("b", "a", most),), (("a", "b", 1, 3),)), kept)
        for latest, kept in ((2, False), (3, True), (4, True)):
            self.assert_kept((latest, ("a", "b"), (), (("a", "b", 1, 3),)), kept)
        for most, kept in ((-1, False), (2, False), (3, True)):
            self.assert_kept((10, ("a", "b"), (("a", "b", most),), (("a", "b", 1, 3),)), kept)
        for least, greatest, kept in ((1, 1, True), (1, 2, True), (1, 3, False), (2, 3, True), (2, 4, False)):
            self.assert_kept(D[:3] + ((("a", "b", least, greatest),),), kept)
        for most, kept in ((-1, False), (0, True), (1, True)):
            self.assert_kept((10, ("a", "b", "c"), (("b", "c", 0), ("c", "b", most)), (("a", "b", 1, 3),)), kept)

    def assert_kept(self, plan, kept):
        with self.subTest(plan=plan):
            if kept:
                self.assertTrue(is_table(plan, table(plan)))
            else:
                self.assertRaises(NotKept, table, plan)


class IsTable(unittest.TestCase):
    def assert_table(self, plan, value, expected):
        with self.subTest(plan=plan, value=value):
            self.assertIs(is_table(plan, value), expected)

    def test_any_order(self):
        random = Random(3)
        for plan in (A, CHAIN, LIMIT, ALONE):
            told = table(plan)
            self.assert_table(plan, told, True)
            self.assert_table(plan, told[::-1], True)
            for _ in range(5):
                random.shuffle(told)
                self.assert_table(plan, told, True)

    def test_one_edge_less(self):
        for plan in (A, CHAIN, LIMIT, ALONE):
            told = table(plan)
            for k in range(len(told)):
                self.assert_table(plan, told[:k] + told[k + 1:], False)
            self.assert_table(plan, [], False)

    def test_one_twice(self):
        for k, edge in enumerate(TABLE_OF_A):
            self.assert_table(A, TABLE_OF_A + [edge], False)
            self.assert_table(A, TABLE_OF_A + [edge[:3] + (edge[3] + 1,)], False)
            self.assert_table(A, [edge[:3] + (edge[3] + 1,)] + TABLE_OF_A, False)

    def test_a_greater_weight(self):
        for plan in (A, CHAIN, LIMIT, ALONE):
            told = table(plan)
            for k in range(len(told)):
                self.assert_table(plan, with_part(told, (k, 3), told[k][3] + 1), False)

    def test_a_lesser_weight(self):
        told = [("a", "go", "", 0), ("go", "a", "", 10)]
        for there, back, expected in ((10, -1, True), (5, 0, True), (5, -5, True), (0, 0, True), (5, -6, False),
                                      (-1, 0, False), (0, -11, False), (10, -10, True), (10, 1, False)):
            self.assert_table(ALONE, [told[0][:3] + (back,), told[1][:3] + (there,)], expected)
        # The lesser weight has to be followed by what comes from it.
        self.assert_table(A, with_part(TABLE_OF_A, (11, 3), 6), False)
        self.assert_table(A, with_part(with_part(TABLE_OF_A, (11, 3), 6), (12, 3), 6), False)
        lesser = [("go", "a", "", 6), ("go", "a", "b", 6), ("go", "b", "", 9), ("go", "c", "", 10)]
        self.assert_table(A, TABLE_OF_A[:11] + lesser, True)
        self.assert_table(A, TABLE_OF_A[:11] + with_part(lesser, (2, 3), 10), False)

    def test_each_lesser_weight_against_the_rules_written_once_more(self):
        seen = set()
        for plan in (A, CHAIN, ALONE):
            told = table(plan)
            for k in range(len(told)):
                for less in (1, 2, 20):
                    value = with_part(told, (k, 3), told[k][3] - less)
                    self.assert_table(plan, value, naive_is_table(plan, value))
                    seen.add(naive_is_table(plan, value))
        self.assertEqual(seen, {True, False})

    def test_a_loop(self):
        for weight in (-1, 0, 5):
            for name in ("a", "go"):
                self.assert_table(A, TABLE_OF_A + [(name, name, "", weight)], False)
            self.assert_table(A, TABLE_OF_A + [("a", "a", "b", weight)], False)
        self.assert_table(EMPTY, [("go", "go", "", 0)], False)

    def closed_without_rings(self, plan):
        """What comes by the rules if rings are passed over, for as many rounds as it takes."""
        weights = {}
        coming = starting_edges(plan)
        for _ in range(12):
            for edge in coming:
                if edge[0] != edge[1] and weights.get(edge[:3], edge[3] + 1) > edge[3]:
                    weights[edge[:3]] = edge[3]
            edges = [key + (weight,) for key, weight in weights.items()]
            coming = coming_edges(plan, edges)
        return edges

    def test_a_loop_that_comes_by_one_rule(self):
        edges = self.closed_without_rings(TWINS)
        coming = coming_edges(TWINS, edges)
        # Nothing is missing, and no edges are a ring: the loop alone makes it no table.
        weights = {edge[:3]: edge[3] for edge in edges}
        self.assertTrue(all(weights[edge[:3]] <= edge[3] for edge in coming if edge[0] != edge[1]))
        self.assertFalse(has_ring(edges))
        self.assertIn(("b", "b", "l", -1), coming)
        self.assert_table(TWINS, edges, False)
        self.assert_table(G, self.closed_without_rings(G), False)
        # With a bound that is by one greater the loop weighs 0, which is no ring.
        for plan in (with_part(G, (2, 0, 2), -1), with_part(TWINS, (2, 0, 2), 1)):
            self.assert_table(plan, self.closed_without_rings(plan), True)

    def test_a_ring(self):
        # Nothing comes from these but loops by "sum", which is no rule for loops.
        self.assert_table((3, ("a",), (("a", "go", -4),), ()), [("a", "go", "", -4), ("go", "a", "", 3)], False)
        self.assert_table((4, ("a",), (("a", "go", -4),), ()), [("a", "go", "", -4), ("go", "a", "", 4)], True)
        for plan in (RING, SHORT, D, E):
            self.assert_table(plan, self.closed_without_rings(plan), False)

    def test_a_tuple_in_place_of_the_list(self):
        self.assert_table(A, tuple(TABLE_OF_A), False)
        self.assert_table(EMPTY, (), False)
        self.assert_table(EMPTY, [], True)

    def test_a_wrong_part_of_an_edge(self):
        for k, edge in enumerate(TABLE_OF_A):
            for wrong in (list(edge), edge[:3], edge[1:], edge + (0,), (), None, 0, "ab", edge[0]):
                self.assert_table(A, with_part(TABLE_OF_A, (k,), wrong), False)
            for place in range(4):
                for wrong in (None, True, False, 1.5, [], (), "d", "B", "go ", {}, 1j, float(edge[3])):
                    self.assert_table(A, with_part(TABLE_OF_A, (k, place), wrong), False)
            self.assert_table(A, with_part(TABLE_OF_A, (k, 3), float(edge[3])), False)

    def test_true_is_no_weight(self):
        plan = (1, ("a",), (), ())
        self.assert_table(plan, [("a", "go", "", 0), ("go", "a", "", 1)], True)
        self.assert_table(plan, [("a", "go", "", 0), ("go", "a", "", True)], False)
        self.assert_table(plan, [("a", "go", "", False), ("go", "a", "", 1)], False)

    def test_edges_that_no_plan_like_this_has(self):
        # A further edge makes the list wrong if it is no edge of the plan, however great its weight is.
        for edge in (("a", "x", "", 99), ("x", "a", "", 99), ("b", "c", "b", 99), ("c", "a", "c", 99),
                     ("c", "a", "a", 99), ("c", "b", "b", 99), ("c", "a", "go", 99), ("go", "c", "b", 99)):
            self.assert_table(A, TABLE_OF_A + [edge], False)
        # All that would come from these is there, but the task that ends with b does not begin with c.
        strange = [("a", "c", "b", 99), ("b", "c", "b", 98), ("go", "c", "b", 99)]
        self.assertTrue(naive_is_table(A, TABLE_OF_A + strange))
        self.assert_table(A, TABLE_OF_A + strange, False)

    def test_other_values(self):
        for plan in (A, D, ALONE, LIMIT):
            for value in OTHERS:
                self.assert_table(plan, value, False)
        for value in OTHERS:
            self.assert_table(EMPTY, value, value == [] and isinstance(value, list))

    def test_nothing_is_a_table_of_a_plan_that_cannot_be_kept(self):
        for plan in (D, E, G):
            self.assert_table(plan, starting_edges(plan), False)
            self.assert_table(plan, TABLE_OF_A, False)

    def test_changed_tables_against_the_rules_written_once_more(self):
        random = Random(11)
        counts = {True: 0, False: 0}
        for number in range(150):
            plan = made_plan(number, events=4, bounds=3, tasks=2, latest=12)
            value = naive_table(plan)
            if value is None:
                continue
            for _ in range(6):
                k = random.randrange(len(value))
                changed = with_part(value, (k, 3), value[k][3] + random.choice([-4, -2, -1, -1, 1]))
                expected = naive_is_table(plan, changed)
                counts[expected] += 1
                self.assert_table(plan, changed, expected)
        self.assertGreater(min(counts.values()), 40)


if __name__ == "__main__":
    unittest.main()
