"""[1]: lists are new, arguments stay as they are and may be passed by name; the interface."""

import copy
import inspect
import unittest

from startnow import careful, edges, errors, histories, limits, plans, tables
from startnow.careful import alike, gap, many_runs, parting_run
from startnow.errors import NotKept
from startnow.histories import (
    advice, blame, can_keep, is_history, played, safe, safe_to_wait, startable, wait_until,
)
from startnow.limits import barring, least_latest, least_most, least_notice, least_time, most_time
from startnow.plans import broken, is_plan, is_run, ours
from startnow.tables import is_paper, is_table, paper, table
from tests.samples import A, CHAIN, D, E, EMPTY, G, LIMIT, NONE, S, T, lists_within

RUN = (9, 11, 11)
HISTORY = (2, (0, 2, None))

INTERFACE = {
    plans: {"is_plan": ["value"], "ours": ["plan"], "is_run": ["plan", "value"], "broken": ["plan", "run"]},
    tables: {"table": ["plan"], "is_table": ["plan", "value"], "paper": ["plan"], "is_paper": ["plan", "value"]},
    histories: {
        "can_keep": ["plan"], "is_history": ["plan", "value"], "safe": ["plan", "history"],
        "safe_to_wait": ["plan", "history"], "startable": ["plan", "history"], "advice": ["plan", "history"],
        "wait_until": ["plan", "history"], "played": ["plan", "times"], "blame": ["plan", "run"],
    },
    limits: {
        "least_most": ["plan", "x", "y"], "most_time": ["plan", "end"], "least_time": ["plan", "end"],
        "least_latest": ["plan"], "least_notice": ["plan", "end"], "barring": ["plan"],
    },
    careful: {
        "gap": ["plan", "x", "y"], "many_runs": ["plan"], "alike": ["one", "other"], "parting_run": ["one", "other"],
    },
}
# Arguments with which each function answers, by the names of the interface.
CALLS = [
    (can_keep, {"plan": A}, True),
    (is_history, {"plan": A, "value": HISTORY}, True),
    (safe, {"plan": A, "history": HISTORY}, True),
    (safe_to_wait, {"plan": A, "history": (4, (0, 2, None))}, False),
    (startable, {"plan": A, "history": HISTORY}, ["c"]),
    (advice, {"plan": A, "history": HISTORY}, ["c"]),
    (wait_until, {"plan": A, "history": HISTORY}, 4),
    (played, {"plan": A, "times": (3,)}, (0, 3, 3)),
    (blame, {"plan": A, "run": RUN}, (7, "wait")),
    (least_most, {"plan": A, "x": "b", "y": "a"}, -1),
    (least_most, {"plan": A, "x": "a", "y": "b"}, 3),
    (most_time, {"plan": A, "end": "b"}, 10),
    (least_time, {"plan": D, "end": "b"}, 2),
    (least_latest, {"plan": A}, 3),
    (least_notice, {"plan": E, "end": "b"}, 1),
    (barring, {"plan": D}, [("b", "c", -1), ("c", "b", 2)]),
    (gap, {"plan": S, "x": "a", "y": "c"}, (1, 3)),
    (gap, {"plan": S, "x": "c", "y": "a"}, (-3, -1)),
    (many_runs, {"plan": T}, 6),
    (alike, {"one": S, "other": T}, False),
    (parting_run, {"one": S, "other": T}, (0, 1, 2)),
]


def reason(plan):
    try:
        table(plan)
    except NotKept as error:
        return error.reason
    raise AssertionError("the plan can be kept")


def reason_of_played(plan):
    try:
        played(plan, tuple(task[2] for task in plan[3]))
    except NotKept as error:
        return error.reason
    raise AssertionError("the plan can be kept")


class Interface(unittest.TestCase):
    def test_names_files_and_arguments(self):
        for module, functions in INTERFACE.items():
            for name, arguments in functions.items():
                function = getattr(module, name)
                self.assertEqual(function.__module__, module.__name__)
                self.assertEqual(list(inspect.signature(function).parameters), arguments)

    def test_no_name_of_the_interface_stands_in_a_helper_as_well(self):
        for functions in INTERFACE.values():
            for name in functions:
                self.assertFalse(hasattr(edges, name))
        self.assertEqual(list(inspect.signature(errors.NotKept).parameters), ["reason"])

    def test_arguments_by_position_and_by_name(self):
        self.assertEqual(is_plan(value=A), is_plan(A))
        self.assertEqual(ours(plan=A), ours(A))
        self.assertEqual(is_run(plan=A, value=RUN), is_run(A, RUN))
        self.assertEqual(is_run(A, value=RUN), is_run(value=RUN, plan=A))
        self.assertEqual(broken(plan=A, run=RUN), broken(A, RUN))
        self.assertEqual(broken(run=RUN, plan=A), broken(A, run=RUN))
        self.assertEqual(table(plan=A), table(A))
        self.assertEqual(paper(plan=D), paper(D))
        self.assertEqual(is_table(plan=A, value=table(A)), is_table(A, table(A)))
        self.assertEqual(is_table(value=[], plan=A), is_table(A, value=[]))
        self.assertEqual(is_paper(plan=D, value=paper(D)), is_paper(D, paper(D)))
        self.assertEqual(is_paper(value=None, plan=D), is_paper(D, value=None))
        for call, arguments, answer in CALLS:
            with self.subTest(call=call):
                self.assertEqual(list(arguments), INTERFACE[inspect.getmodule(call)][call.__name__])
                self.assertEqual(call(*arguments.values()), answer)
                self.assertEqual(call(**arguments), answer)
                self.assertEqual(call(**dict(reversed(arguments.items()))), answer)

    def test_kinds_of_the_answers(self):
        for call, arguments, answer in CALLS:
            self.assertIs(type(call(**arguments)), type(answer), call)


class NewLists(unittest.TestCase):
    def assert_new(self, call, *arguments):
        """A list that was returned is changed: the same call tells the same again."""
        with self.subTest(call=call, arguments=arguments):
            first = call(*arguments)
            before = copy.deepcopy(first)
            second = call(*arguments)
            objects = lists_within(first) + lists_within(second)
            self.assertGreater(len(objects), 0)
            self.assertEqual(len(objects), len({id(one) for one in objects}))
            for one in lists_within(first):
                one.append("spoilt")
                one.reverse()
            self.assertEqual(second, before)
            self.assertEqual(call(*arguments), before)

    def test_ours(self):
        for plan in (A, EMPTY, CHAIN, LIMIT):
            self.assert_new(ours, plan)

    def test_broken(self):
        self.assert_new(broken, A, RUN)
        self.assert_new(broken, A, (0, 2, 2))
        self.assert_new(broken, EMPTY, ())

    def test_table(self):
        for plan in (A, EMPTY, CHAIN, LIMIT):
            self.assert_new(table, plan)

    def test_paper(self):
        for plan in (D, E, G):
            self.assert_new(paper, plan)
            self.assert_new(reason, plan)
            self.assertEqual(reason(plan), paper(plan))
            self.assert_new(reason_of_played, plan)
            self.assertEqual(reason_of_played(plan), paper(plan))

    def test_startable_and_advice(self):
        for call in (startable, advice):
            for plan, history in ((A, (0, NONE)), (A, HISTORY), (A, (1, (0, None, None))), (EMPTY, (0, ()))):
                self.assert_new(call, plan, history)
            self.assert_new(call, LIMIT, (0, (None,) * 7))
        self.assert_new(startable, D, (0, NONE))

    def test_barring(self):
        for plan in (D, E, G, (0, ("a", "b"), (), (("a", "b", 1, 1),))):
            self.assert_new(barring, plan)


class Arguments(unittest.TestCase):
    def assert_unchanged(self, call, *arguments):
        with self.subTest(call=call):
            before = copy.deepcopy(arguments)
            first = call(*arguments)
            self.assertEqual(arguments, before)
            self.assertEqual(repr(arguments), repr(before))
            self.assertEqual(call(*arguments), first)

    def test_lists_stay_as_they_are(self):
        told = table(A)
        for value in (told, told[::-1], told[1:], told + told, [], [[1, 2], 3], ["b", "a"]):
            self.assert_unchanged(is_table, A, value)
        for value in (paper(D), ([], []), ([3, 1], [2, 1]), (paper(D)[0][::-1], [0]), paper(G)):
            self.assert_unchanged(is_paper, D, value)
        for value in ([3, 1, 2], [[2], [1]]):
            self.assert_unchanged(is_plan, value)
            self.assert_unchanged(is_run, A, value)
            self.assert_unchanged(is_history, A, value)
        for value in ([2, [0, 2, None]], (2, [0, 2, None])):
            self.assert_unchanged(is_history, A, value)
        for call, arguments, _ in CALLS:
            self.assert_unchanged(call, *arguments.values())

    def test_a_list_changed_behind_the_call_does_not_matter(self):
        value = table(A)
        self.assertTrue(is_table(A, value))
        value.pop()
        self.assertFalse(is_table(A, value))
        value = paper(D)
        self.assertTrue(is_paper(D, value))
        kept = value[1].pop()
        self.assertFalse(is_paper(D, value))
        value[1].append(kept)
        self.assertTrue(is_paper(D, value))

    def test_results_do_not_hang_on_earlier_calls(self):
        first = (table(A), paper(D), ours(A), broken(A, RUN))
        for plan in (CHAIN, LIMIT, E, G, EMPTY):
            paper(plan)
            can_keep(plan)
            least_latest(plan)
        self.assertEqual((table(A), paper(D), ours(A), broken(A, RUN)), first)
        for call, arguments, answer in CALLS + CALLS[::-1]:
            self.assertEqual(call(**arguments), answer)


if __name__ == "__main__":
    unittest.main()
