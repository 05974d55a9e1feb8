"""[4]: what is a plan and what is none, and which events are ours."""

import unittest

from startnow.plans import is_plan, ours
from tests.samples import A, CHAIN, D, E, EMPTY, G, LIMIT, OTHERS, part_at, paths, with_part

SAMPLES = (A, D, E, G, CHAIN, LIMIT)


def plan_of(events="a b c", bounds=(), tasks=(), latest=10):
    return (latest, tuple(events.split()), tuple(bounds), tuple(tasks))


class Plans(unittest.TestCase):
    def assert_plan(self, plan):
        with self.subTest(plan=plan):
            self.assertIs(is_plan(plan), True)

    def assert_none(self, value):
        with self.subTest(value=value):
            self.assertIs(is_plan(value), False)

    def test_samples(self):
        for plan in SAMPLES + (EMPTY, plan_of("", latest=0), plan_of("", latest=7)):
            self.assert_plan(plan)

    def test_other_values(self):
        for value in OTHERS:
            self.assert_none(value)

    def test_wrong_lengths(self):
        for plan in SAMPLES:
            for path in [path for path in paths(plan) if isinstance(part_at(plan, path), tuple)]:
                if path in ((1,), (2,), (3,)):
                    continue
                part = part_at(plan, path)
                for wrong in (part[:-1], part[1:], part + (1,), part + part[-1:], ()):
                    self.assert_none(with_part(plan, path, wrong))

    def test_a_list_in_place_of_a_tuple(self):
        for plan in SAMPLES + (EMPTY,):
            for path in [path for path in paths(plan) if isinstance(part_at(plan, path), tuple)]:
                self.assert_none(with_part(plan, path, list(part_at(plan, path))))

    def test_other_kinds_at_each_place(self):
        wrongs = [None, True, False, 1.0, "1", b"a", [], {}, (), set(), 1j]
        for plan in SAMPLES:
            for path in paths(plan):
                for wrong in wrongs:
                    if wrong == () and path in ((2,), (3,)):
                        continue
                    self.assert_none(with_part(plan, path, wrong))

    def test_names_in_place_of_integers_and_integers_in_place_of_names(self):
        for plan in SAMPLES:
            for path in paths(plan):
                part = part_at(plan, path)
                if isinstance(part, str):
                    self.assert_none(with_part(plan, path, 1))
                if isinstance(part, int):
                    self.assert_none(with_part(plan, path, "a"))

    def test_true_is_no_integer(self):
        plan = (1, ("a", "b"), (("a", "b", 1),), (("a", "b", 1, 1),))
        self.assert_plan(plan)
        for path in ((0,), (2, 0, 2), (3, 0, 2), (3, 0, 3)):
            self.assert_none(with_part(plan, path, True))
        self.assert_none(with_part(plan, (0,), False))
        self.assert_none(with_part(plan, (2, 0, 2), False))

    def test_latest(self):
        for latest in (0, 1, 40, 10 ** 30):
            self.assert_plan(plan_of(latest=latest))
        for latest in (-1, -10 ** 30):
            self.assert_none(plan_of(latest=latest))

    def test_names(self):
        for name in ("a", "z", "abcdefgh", "zzzzzzzz", "wait", "gone", "og", "g", "o"):
            self.assert_plan((3, (name,), (), ()))
        for name in ("", "abcdefghi", "A", "aB", "Z", "a1", "1", "a b", " a", "a ", "a\n", "a-b", "a_b",
                     "\u00e9", "\u00e4", "a\u0131", "`", "{", "@", "go"):
            self.assert_none((3, (name,), (), ()))

    def test_events_ascend_and_are_unlike(self):
        for events in ("a", "a aa", "a aa ab b", "aab ab b"):
            self.assert_plan(plan_of(events))
        for events in ("b a", "a a", "a b b", "aa a", "b aa", "a c b", "a b a"):
            self.assert_none(plan_of(events))

    def test_bounds(self):
        self.assert_plan(plan_of(bounds=[("a", "b", -100), ("a", "c", 100), ("a", "go", 0), ("b", "a", 0)]))
        self.assert_plan(plan_of(bounds=[("c", "go", 5), ("go", "c", -5)]))
        for bound in (("a", "a", 1), ("go", "go", 0), ("a", "d", 1), ("d", "a", 1), ("a", "", 1), ("a", "GO", 1)):
            self.assert_none(plan_of(bounds=[bound]))

    def test_bounds_ascend(self):
        good = [("a", "b", 5), ("a", "c", 1), ("b", "a", 0), ("go", "a", -3)]
        self.assert_plan(plan_of(bounds=good))
        for k in range(3):
            swapped = good[:k] + [good[k + 1], good[k]] + good[k + 2:]
            self.assert_none(plan_of(bounds=swapped))

    def test_two_bounds_of_one_pair(self):
        for first, second in ((1, 2), (2, 1), (1, 1)):
            self.assert_none(plan_of(bounds=[("a", "b", first), ("a", "b", second)]))

    def test_bounds_of_a_plan_without_events(self):
        for bound in (("go", "go", 0), ("a", "go", 0), ("go", "a", 0)):
            self.assert_none(plan_of("", bounds=[bound]))

    def test_tasks(self):
        self.assert_plan(plan_of(tasks=[("a", "b", 1, 1), ("a", "c", 1, 40)]))
        self.assert_plan(plan_of(tasks=[("b", "a", 2, 3), ("c", "b", 1, 2)]))
        for task in (("go", "b", 1, 2), ("a", "go", 1, 2), ("a", "d", 1, 2), ("d", "a", 1, 2), ("a", "a", 1, 2)):
            self.assert_none(plan_of(tasks=[task]))

    def test_times(self):
        for least, greatest in ((1, 1), (1, 2), (40, 40), (3, 10 ** 20)):
            self.assert_plan(plan_of(tasks=[("a", "b", least, greatest)]))
        for least, greatest in ((0, 1), (-1, 1), (2, 1), (0, 0), (-2, -1), (41, 40)):
            self.assert_none(plan_of(tasks=[("a", "b", least, greatest)]))

    def test_tasks_ascend(self):
        good = [("a", "c", 1, 2), ("a", "d", 1, 2), ("b", "a", 1, 2)]
        self.assert_plan(plan_of("a b c d", tasks=good))
        for k in range(2):
            swapped = good[:k] + [good[k + 1], good[k]] + good[k + 2:]
            self.assert_none(plan_of("a b c d", tasks=swapped))

    def test_two_tasks_of_one_end(self):
        for first, second in ((("a", "c", 1, 2), ("b", "c", 1, 2)), (("a", "c", 1, 2), ("a", "c", 1, 3)),
                              (("a", "c", 1, 2), ("a", "c", 1, 2))):
            self.assert_none(plan_of(tasks=[first, second]))

    def test_tasks_that_go_round(self):
        self.assert_none(plan_of(tasks=[("a", "a", 1, 2)]))
        self.assert_none(plan_of(tasks=[("a", "b", 1, 2), ("b", "a", 1, 2)]))
        self.assert_none(plan_of(tasks=[("a", "b", 1, 2), ("b", "c", 1, 2), ("c", "a", 1, 2)]))
        self.assert_none(plan_of("a b c d", tasks=[("b", "c", 1, 2), ("c", "b", 1, 2), ("c", "d", 1, 2)]))
        self.assert_none(plan_of("a b c d", tasks=[("b", "a", 1, 2), ("b", "c", 1, 2), ("c", "b", 1, 2)]))
        self.assert_none(plan_of("a b c d", tasks=[("a", "d", 1, 2), ("b", "c", 1, 2), ("c", "b", 1, 2)]))

    def test_chains_and_trees_of_tasks(self):
        self.assert_plan(CHAIN)
        self.assert_plan(plan_of("a b c d", tasks=[("c", "b", 1, 2), ("d", "a", 1, 2), ("d", "c", 1, 2)]))
        self.assert_plan(plan_of("a b c d", tasks=[("b", "a", 1, 1), ("c", "b", 1, 1), ("d", "c", 1, 1)]))

    def test_large_plans(self):
        letters = "abcdefghijklmnopqrstuvwxyz"
        names = sorted("x" + p + q + r for p in letters[:8] for q in letters for r in letters)
        forth = tuple((names[k], names[k + 1], 1, 2) for k in range(len(names) - 1))
        back = tuple((names[k + 1], names[k], 1, 2) for k in range(len(names) - 1))
        bounds = tuple((x, "go", 5) for x in names)
        self.assertTrue(is_plan((10 ** 9, tuple(names), bounds, forth)))
        self.assertTrue(is_plan((10 ** 9, tuple(names), bounds, back)))
        ring = tuple(sorted(forth + ((names[-1], names[0], 1, 2),)))
        self.assertFalse(is_plan((10 ** 9, tuple(names), bounds, ring)))
        self.assertEqual(ours((10 ** 9, tuple(names), bounds, back)), [names[-1]])


class Ours(unittest.TestCase):
    def test_ours(self):
        self.assertEqual(ours(A), ["a", "c"])
        self.assertEqual(ours(EMPTY), [])
        self.assertEqual(ours(CHAIN), ["a"])
        self.assertEqual(ours(LIMIT), ["a", "d", "f", "g"])
        self.assertEqual(ours(plan_of("a b c")), ["a", "b", "c"])
        self.assertEqual(ours(plan_of("a b c", tasks=[("c", "a", 1, 2)])), ["b", "c"])


if __name__ == "__main__":
    unittest.main()
