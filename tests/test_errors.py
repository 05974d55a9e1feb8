"""[3]: the error classes, NotKept's reason, and which error comes first."""

import unittest

from startnow import errors
from startnow.errors import InvalidPlan, InvalidRun, NotKept, PlanError
from startnow.plans import broken, is_run, ours
from startnow.tables import is_paper, is_table, paper, table
from tests.samples import A, D, OTHERS, with_part

NAMES = (
    "InvalidPlan InvalidRun InvalidHistory InvalidTimes InvalidEvent InvalidText InvalidBound InvalidPair "
    "InvalidEnds InvalidNumber SameEvent OtherTasks NotDesign NotSafe Started NothingToUndo TooLate NotKept"
).split()


class ErrorClasses(unittest.TestCase):
    def test_plan_error_is_a_value_error(self):
        self.assertTrue(issubclass(PlanError, ValueError))

    def test_all_classes_exist_below_plan_error(self):
        for name in NAMES:
            with self.subTest(name):
                self.assertTrue(issubclass(getattr(errors, name), PlanError))
                self.assertEqual(getattr(errors, name).__module__, "startnow.errors")

    def test_no_class_but_plan_error_is_above_another(self):
        classes = [getattr(errors, name) for name in NAMES]
        for one in classes:
            for other in classes:
                self.assertEqual(issubclass(one, other), one is other)

    def test_all_but_the_last_are_made_without_arguments(self):
        for name in NAMES[:-1]:
            with self.assertRaises(getattr(errors, name)):
                raise getattr(errors, name)()

    def test_not_kept_keeps_its_reason(self):
        for reason in (None, 0, "words", ([], [0])):
            for error in (NotKept(reason), NotKept(reason=reason)):
                self.assertIs(error.reason, reason)
                with self.assertRaises(NotKept) as caught:
                    raise error
                self.assertIs(caught.exception.reason, reason)
        with self.assertRaises(TypeError):
            NotKept()


class ErrorOrder(unittest.TestCase):
    def test_every_function_refuses_what_is_no_plan(self):
        for plan in OTHERS:
            for value in (None, (), (0, 2, 2), ([], [])):
                for call in (is_run, broken, is_table, is_paper):
                    with self.subTest(call=call, plan=plan, value=value), self.assertRaises(InvalidPlan):
                        call(plan, value)
            for call in (ours, table, paper):
                with self.subTest(call=call, plan=plan), self.assertRaises(InvalidPlan):
                    call(plan)

    def test_wrong_plan_comes_before_all_else(self):
        # The plan has a wrong task, and without that it could not be kept.
        wrong = with_part(D, (3, 0, 2), 0)
        for call in (table, paper, ours):
            with self.assertRaises(InvalidPlan):
                call(wrong)
        with self.assertRaises(InvalidPlan):
            broken(wrong, (0, 2, 2))
        with self.assertRaises(InvalidPlan):
            broken(wrong, "no run")

    def test_wrong_run_of_any_plan(self):
        for plan in (A, D):
            for run in OTHERS:
                with self.subTest(plan=plan, run=run), self.assertRaises(InvalidRun):
                    broken(plan, run)

    def test_a_plan_that_cannot_be_kept_still_has_runs(self):
        self.assertEqual(broken(D, (0, 2, 1)), [])
        with self.assertRaises(NotKept):
            table(D)


if __name__ == "__main__":
    unittest.main()
