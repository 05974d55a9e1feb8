"""[21]: designs with a further bound, with one bound less, and of two designs together."""

import unittest

from startnow.designs import Design
from startnow.errors import InvalidBound, InvalidPair, NotDesign, OtherTasks
from startnow.plans import broken, is_plan
from tests.game import all_runs
from tests.samples import A, CHAIN, D, E, EMPTY, Equal, G, LIMIT, OTHERS, S, T, limit_plan, made_plan, with_part
from tests.test_changes import with_bound
from tests.test_designs import NO_PAIRS

PLANS = [A, D, E, G, S, T, EMPTY, CHAIN, LIMIT] + [made_plan(k) for k in range(30)]


def pairs_of(plan):
    places = ("go",) + plan[1]
    return [(x, y) for x in places for y in places if x != y]


def with_bounds(plan, bounds):
    for bound in bounds:
        plan = with_bound(plan, bound)
    return plan


class Designs(unittest.TestCase):
    def assert_design(self, design, plan):
        """The object is a design of just this plan."""
        self.assertIs(type(design), Design)
        self.assertTrue(is_plan(plan))
        self.assertEqual(design.plan, plan)
        self.assertEqual(repr(design.plan), repr(plan))


class FurtherBound(Designs):
    def test_a_pair_that_is_there(self):
        for most, expected in ((-3, -3), (1, 1), (2, 2), (3, 2), (100, 2)):
            self.assert_design(Design(A) + ("b", "c", most), with_part(A, (2, 0, 2), expected))

    def test_a_pair_that_is_not_there(self):
        self.assert_design(Design(A) + ("a", "c", 5), with_part(A, (2,), (("a", "c", 5),) + A[2]))
        self.assert_design(Design(A) + ("c", "go", -1), with_part(A, (2,), A[2] + (("c", "go", -1),)))
        self.assert_design(Design(A) + ("go", "c", 9), with_part(A, (2,), A[2] + (("go", "c", 9),)))
        self.assert_design(Design(A) + ("b", "a", 0), with_part(A, (2,), (("b", "a", 0),) + A[2]))

    def test_the_other_way_round(self):
        plan = (9, ("a", "b"), (("a", "b", 3),), ())
        self.assert_design(Design(plan) + ("b", "a", 1), with_part(plan, (2,), (("a", "b", 3), ("b", "a", 1))))
        plan = (9, ("a", "b"), (("b", "a", 1),), ())
        self.assert_design(Design(plan) + ("a", "b", 3), with_part(plan, (2,), (("a", "b", 3), ("b", "a", 1))))

    def test_all_pairs(self):
        for plan in PLANS:
            for x, y in pairs_of(plan):
                for most in (-100, -2, 0, 1, 3, 100):
                    design = Design(plan)
                    self.assert_design(design + (x, y, most), with_bound(plan, (x, y, most)))
                    self.assert_design(design, plan)

    def test_runs_that_are_left(self):
        for bound in (("b", "c", 0), ("b", "c", 3), ("a", "c", 2), ("c", "go", -2), ("go", "b", 1)):
            one, further = Design(S), Design(S) + bound
            for run in all_runs(S, 4):
                x, y, most = bound
                moments = {"go": 0, **dict(zip(S[1], run))}
                self.assertIs(run in further, run in one and moments[y] - moments[x] <= most)

    def test_more_than_ten_bounds(self):
        design, plan = Design(LIMIT), LIMIT
        for number, (x, y) in enumerate(pairs_of(LIMIT)):
            design, plan = design + (x, y, 60 - number), with_bound(plan, (x, y, 60 - number))
        self.assert_design(design, plan)
        self.assertEqual(len(plan[2]), 56)
        for x, y in pairs_of(LIMIT):
            design = design - (x, y)
        self.assert_design(design, with_part(LIMIT, (2,), ()))

    def test_what_can_be_no_bound(self):
        wrong = [
            ("a", "a", 2), ("go", "go", 0), ("a", "z", 2), ("z", "a", 2), ("a", "b", True), ("a", "b", None),
            ("a", "b", "2"),
            ("a", "b", 2.0), ("a", "b"), ("b", "c"), ("a", "b", 2, 3), ["a", "b", 2], ("a", 2, "b"), (2, "a", "b"),
            Equal(),
            ("a", ["b"], 2), (("a", "b"), 2), ("a", Equal(), 2), ("a", "b", Equal()), ("", "a", 1), Design(A), A, A[2],
        ]
        for value in OTHERS + wrong:
            for plan in (A, D):
                with self.subTest(value=value), self.assertRaises(InvalidBound):
                    Design(plan) + value
        for value in ("go", "a", 1), ("a", "go", 1):
            with self.assertRaises(InvalidBound):
                Design(EMPTY) + value


class BoundLess(Designs):
    def test_each_bound(self):
        for plan in PLANS:
            for bound in plan[2]:
                design = Design(plan)
                left = tuple(other for other in plan[2] if other != bound)
                self.assert_design(design - bound[:2], with_part(plan, (2,), left))
                self.assert_design(design, plan)

    def test_bounds_that_are_gone(self):
        design = Design(A) - ("b", "c")
        with self.assertRaises(InvalidPair):
            design - ("b", "c")
        self.assert_design(design - ("c", "b"), with_part(A, (2,), ()))
        self.assert_design(design + ("b", "c", 2), A)

    def test_pairs_without_a_bound(self):
        for plan in PLANS:
            there = [bound[:2] for bound in plan[2]]
            for pair in pairs_of(plan):
                if pair not in there:
                    with self.assertRaises(InvalidPair):
                        Design(plan) - pair
                    self.assert_design(Design(plan) + (*pair, 7) - pair, plan)

    def test_the_other_way_round(self):
        design = Design((9, ("a", "b"), (("a", "b", 3),), ()))
        with self.assertRaises(InvalidPair):
            design - ("b", "a")
        self.assert_design(design - ("a", "b"), (9, ("a", "b"), (), ()))

    def test_what_is_no_pair_of_a_bound(self):
        for value in NO_PAIRS + [
            ("b", "c", 2), ["b", "c"], (Equal(), "c"), ("b", Equal()), Equal(), (Equal(), Equal()),
        ]:
            for plan in (A, D):
                with self.subTest(value=value), self.assertRaises(InvalidPair):
                    Design(plan) - value


class Together(Designs):
    def assert_joined(self, one, other):
        expected = with_part(with_bounds(one, other[2]), (0,), min(one[0], other[0]))
        left, right = Design(one), Design(other)
        self.assert_design(left & right, expected)
        self.assert_design(right & left, expected)
        self.assert_design(left, one)
        self.assert_design(right, other)

    def test_with_itself(self):
        for plan in PLANS:
            design = Design(plan)
            self.assert_design(design & design, plan)
            self.assert_joined(plan, plan)

    def test_same_tasks_and_other_bounds(self):
        self.assert_joined(S, T)
        self.assert_joined(A, D)
        self.assertEqual((Design(A) & Design(D)).plan[2], (("b", "c", -1), ("c", "b", 0)))
        self.assertIs(bool(Design(A) & Design(D)), False)
        self.assertIs(Design(S) & Design(T) == Design(T), True)
        self.assert_joined(A, with_part(A, (2,), ()))
        self.assert_joined(A, with_part(A, (2,), (("a", "go", -1), ("b", "c", 0), ("go", "c", 8))))

    def test_another_latest(self):
        self.assert_joined(A, with_part(A, (0,), 4))
        self.assert_joined(A, with_part(D, (0,), 40))
        self.assert_joined(with_part(A, (0,), 0), A)
        self.assert_joined(EMPTY, (12, (), (), ()))

    def test_made_bounds(self):
        for number in range(60):
            plan = made_plan(number, bounds=6)
            other = with_part(plan, (0,), 1 + number % 12)
            for place, (x, y) in enumerate(pairs_of(plan)):
                if (number + place) % 3:
                    other = with_bound(other, (x, y, (number * place) % 9 - 2))
            self.assert_joined(plan, other)

    def test_more_than_ten_bounds(self):
        for number in range(10):
            plan, pairs = limit_plan(number), pairs_of(limit_plan(number))
            bounds = tuple(sorted((x, y, number) for x, y in pairs[number:number + 10]))
            other = with_part(plan, (2,), bounds)
            self.assert_joined(plan, other)
            joined = Design(plan) & Design(other)
            self.assertGreater(len(joined.plan[2]), 10)
            self.assert_design(joined & joined, joined.plan)
            self.assertEqual(bool(joined), joined.paper() is None)

    def test_runs_of_both(self):
        other = (3, S[1], (("a", "c", 2), ("b", "c", 0)), S[3])
        joined = Design(S) & Design(other)
        for run in all_runs(S, 5):
            self.assertIs(run in joined, broken(S, run) == [] and broken(other, run) == [])

    def test_other_tasks(self):
        others = [E, EMPTY, with_part(A, (3,), ()), with_part(A, (3, 0, 3), 4), with_part(A, (3, 0, 2), 2), CHAIN]
        for plan in others + [with_part(A, (1,), ("a", "b", "c", "d")), (10, ("a", "b"), (), A[3])]:
            for one, other in ((A, plan), (plan, A)):
                with self.subTest(plan=plan), self.assertRaises(OtherTasks):
                    Design(one) & Design(other)

    def test_what_is_no_design(self):
        for value in OTHERS + [A, E, A[2], ("a", "b", 2), Equal(), list(A), "latest 0; events; bounds; tasks"]:
            for plan in (A, D):
                with self.subTest(value=value), self.assertRaises(NotDesign):
                    Design(plan) & value


class NothingChanges(Designs):
    def test_plan_stays_behind_every_operation(self):
        for plan in (A, D, S):
            design, other = Design(plan), Design(plan)
            for call in (
                lambda: bool(design), lambda: (0, 2, 2) in design, lambda: design == other,
                lambda: design + ("a", "c", 1),
                lambda: design - ("b", "c"), lambda: design & other, lambda: design.paper(), lambda: design.barring(),
                lambda: design.blame((0, 2, 2)), lambda: design.least_most("a", "c"), lambda: design != 5,
            ):
                before = design.paper(), design.barring(), bool(design)
                call()
                call()
                self.assert_design(design, plan)
                self.assert_design(other, plan)
                self.assertEqual((design.paper(), design.barring(), bool(design)), before)
            for call in (
                lambda: design + 1, lambda: design - 1, lambda: design & 1, lambda: design["a"], lambda: design(1),
                lambda: design.blame(1), lambda: design.gap(1, 1), lambda: design.least_most("a", "a"),
            ):
                with self.assertRaises(ValueError):
                    call()
                self.assert_design(design, plan)

    def test_a_name_that_is_given_a_further_bound(self):
        first = design = Design(A)
        design += ("a", "c", 1)
        self.assert_design(first, A)
        self.assert_design(design, with_bound(A, ("a", "c", 1)))
        design -= ("a", "c")
        design &= Design(D)
        self.assert_design(design, with_part(A, (2, 0, 2), -1))


if __name__ == "__main__":
    unittest.main()
