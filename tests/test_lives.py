"""[23] and [24]: live runs, their steps, what they tell, and how steps are taken back."""

import unittest
from itertools import permutations, product

from startnow.errors import InvalidEnds, InvalidEvent, InvalidPlan, NothingToUndo, NotSafe, PlanError, Started
from startnow.histories import advice, is_history, safe, wait_until
from startnow.lives import CappedLive, Live, StrictCappedLive, StrictLive
from startnow.plans import ours
from tests.game import Player
from tests.plays import CLASSES, outcome, state_of, walk
from tests.samples import (
    A, CHAIN, D, E, EMPTY, Equal, G, LIMIT, NONE, OTHERS, S, T, made_plan, notice_plan, with_part,
)

# Two tasks of one begin, one behind the end of another, and an event that is free.
TASKS = (
    12, ("a", "b", "c", "d", "e"), (("e", "go", -1),),
    (("a", "b", 1, 3), ("a", "c", 2, 2), ("b", "d", 1, 2)),
)


def played_by(kind, plan, *steps):
    """A live run behind some steps: starts by their names, and tuples of the ends of next moments."""
    live = kind(plan)
    for step in steps:
        live.start(step) if isinstance(step, str) else live.pass_on(*step)
    return live


class Case(unittest.TestCase):
    def assert_refused(self, live, error, call, *arguments, **named):
        """A call raises an error, and the object is as it was, also as to what can be taken back."""
        before, calls = state_of(live), list(live._calls)
        with self.assertRaises(error) as caught:
            call(*arguments, **named)
        self.assertIs(type(caught.exception), error)
        self.assertEqual(state_of(live), before)
        self.assertEqual(live._calls, calls)


class Steps(Case):
    def test_the_examples(self):
        x = Live(A)
        self.assertEqual(
            [x.advice(), x.start("a"), x.pass_on(), x.running, x.pass_on("b")], [["a"], "safe", "safe", ["b"], "safe"],
        )
        self.assertEqual(
            [x.advice(), x.start("c"), x.done, x.history, x.undo(), x.left],
            [["c"], "safe", True, (2, (0, 2, 2)), "start", ["c"]],
        )

    def test_what_is_no_plan(self):
        for kind in CLASSES:
            for value in OTHERS + [with_part(D, (3, 0, 2), 0), list(A), A[:3], Live(A)]:
                with self.assertRaises(InvalidPlan):
                    kind(value)
                with self.assertRaises(InvalidPlan):
                    kind(plan=value)

    def test_starts(self):
        live = Live(A)
        self.assertEqual(live.start(event="a"), "safe")
        self.assertEqual(live.history, (0, (0, None, None)))
        self.assertEqual(live.start("c"), "lost")
        self.assertEqual(live.history, (0, (0, None, 0)))

    def test_several_starts_at_one_moment(self):
        live = played_by(Live, TASKS, (), (), "e", "a")
        self.assertEqual(live.history, (2, (2, None, None, None, 2)))
        self.assertEqual(live.running, ["b", "c"])

    def test_starts_behind_latest(self):
        live = Live(A)
        for now in range(1, 15):
            self.assertEqual(live.pass_on(), "safe" if now <= 7 else "lost")
            self.assertEqual(live.now, now)
        self.assertEqual(live.start("a"), "lost")
        self.assertEqual(live.pass_on(), "lost")
        self.assertEqual([live.pass_on("b"), live.start("c"), live.done], ["lost", "lost", True])
        self.assertEqual(live.history, (16, (14, 16, 16)))
        self.assertEqual(live.pass_on(), "lost")

    def test_going_on_behind_latest_when_all_has_happened(self):
        live = played_by(Live, A, "a", (), ("b",), "c")
        for now in range(3, 40):
            self.assertEqual(live.pass_on(), "safe")
            self.assertEqual((live.now, live.done), (now, True))

    def test_started(self):
        for kind in CLASSES:
            live = played_by(kind, A, "a")
            self.assert_refused(live, Started, live.start, "a")
            live.pass_on()
            live.pass_on("b")
            self.assert_refused(live, Started, live.start, "a")
            live.start("c")
            for event in ("a", "c"):
                self.assert_refused(live, Started, live.start, event=event)

    def test_what_cannot_be_started(self):
        for kind in CLASSES:
            for live in (kind(A), played_by(kind, A, "a"), played_by(kind, A, "a", (), ("b",))):
                for value in OTHERS + ["b", "go", "d", "A", ["c"], ("c",), b"c", Equal()]:
                    if value != "a" or isinstance(value, Equal):
                        self.assert_refused(live, InvalidEvent, live.start, value)
                        self.assert_refused(live, InvalidEvent, live.start, event=value)


class Ends(Case):
    def assert_next(self, live, *right):
        """At the next moment just these tuples of ends can be seen, in any order."""
        events = live.plan[1]
        for many in range(4):
            for ends in product(events, repeat=many):
                with self.subTest(history=live.history, ends=ends):
                    if tuple(sorted(ends)) in right:
                        now, history = live.now, live.history
                        self.assertIn(live.pass_on(*ends), ("safe", "lost"))
                        self.assertEqual(live.now, now + 1)
                        self.assertEqual([end for end in events if live[end] == now + 1], sorted(ends))
                        live.undo()
                        self.assertEqual(live.history, history)
                    else:
                        self.assert_refused(live, InvalidEnds, live.pass_on, *ends)

    def test_no_task_runs(self):
        for plan in (A, D, TASKS, CHAIN, S):
            self.assert_next(Live(plan), ())
        self.assert_next(played_by(Live, TASKS, "e"), ())
        self.assert_next(played_by(Live, A, (), "c"), ())

    def test_least_and_greatest_times(self):
        self.assert_next(played_by(Live, A, "a"), (), ("b",))
        self.assert_next(played_by(Live, A, "a", ()), (), ("b",))
        self.assert_next(played_by(Live, A, "a", (), ()), ("b",))
        self.assert_next(played_by(Live, A, "a", (), (), ("b",)), ())
        long = (20, ("a", "b"), (), (("a", "b", 3, 4),))
        self.assert_next(played_by(Live, long, "a"), ())
        self.assert_next(played_by(Live, long, "a", ()), ())
        self.assert_next(played_by(Live, long, "a", (), ()), (), ("b",))
        self.assert_next(played_by(Live, long, "a", (), (), ()), ("b",))
        self.assert_next(played_by(Live, long, (), (), "a", ()), ())

    def test_several_tasks(self):
        self.assert_next(played_by(Live, TASKS, "a"), (), ("b",))
        self.assert_next(played_by(Live, TASKS, "a", ()), ("c",), ("b", "c"))
        self.assert_next(played_by(Live, TASKS, "a", ("b",)), ("c",), ("c", "d"))
        self.assert_next(played_by(Live, TASKS, "a", (), ("b", "c")), (), ("d",))
        self.assert_next(played_by(Live, TASKS, "a", (), ("c",)), ("b",))
        self.assert_next(played_by(Live, TASKS, "a", (), ("c", "b"), ()), ("d",))

    def test_the_end_of_a_task_that_begins_at_the_same_moment(self):
        live = played_by(Live, CHAIN, "a")
        self.assert_next(live, (), ("b",))
        self.assert_refused(live, InvalidEnds, live.pass_on, "b", "c")

    def test_three_ends_at_one_moment(self):
        plan = (9, ("a", "b", "c", "d"), (), (("a", "b", 1, 2), ("a", "c", 1, 2), ("a", "d", 1, 3)))
        for ends in permutations("bcd"):
            live = played_by(Live, plan, "a", ends)
            self.assertEqual(live.history, (1, (0, 1, 1, 1)))
        live = played_by(Live, plan, "a")
        self.assert_refused(live, InvalidEnds, live.pass_on, "b", "c", "d", "b")

    def test_behind_latest(self):
        live = played_by(Live, A, *[()] * 12, "a", ())
        self.assert_next(live, (), ("b",))
        live.pass_on()
        self.assert_next(live, ("b",))

    def test_values_of_all_kinds(self):
        for kind in CLASSES:
            for live in (kind(A), played_by(kind, A, "a"), played_by(kind, A, "a", (), ())):
                for value in OTHERS + ["go", "d", ["b"], ("b",), b"b", Equal(), None, "b "]:
                    for ends in ((value,), (value, "b"), ("b", value), (value, value)):
                        self.assert_refused(live, InvalidEnds, live.pass_on, *ends)

    def test_against_the_player(self):
        for number in range(15):
            plan = made_plan(number, events=4, bounds=0, tasks=3, latest=3, time=3)
            player = Player(plan)
            for history in list(player.histories(3))[:40]:
                live = Live.read(plan, "at 0; none")
                live._history = history
                right = [
                    tuple(event for event in plan[1] if behind[1][plan[1].index(event)] == history[0] + 1)
                    for behind, _ in player.next_ones(history, player.untold)
                ]
                self.assert_next(live, *right)


class Walks(unittest.TestCase):
    """Sixty calls that change one object, of each class, against the player."""

    def assert_walk(self, number, kind, plan):
        told = set()
        for call, answer, expected in walk(number, kind, plan):
            self.assertEqual(answer, expected, (number, kind, plan, call))
            self.assertIs(type(answer), type(expected))
            if isinstance(answer, str):
                told.add(answer)
        return told

    def assert_walks(self, kind, *errors):
        told = set()
        for number in range(50):
            plan = made_plan(number, events=4, bounds=3, tasks=3, latest=5, slack=2)
            told |= self.assert_walk(number, kind, plan)
        for number in range(20):
            told |= self.assert_walk(number, kind, notice_plan(number))
        usual = {"safe", "start", "pass_on", "InvalidEvent", "InvalidEnds", "Started", "NothingToUndo"}
        self.assertLessEqual(usual | set(errors), told)

    def test_live(self):
        self.assert_walks(Live, "lost", "NotSafe")

    def test_strict(self):
        self.assert_walks(StrictLive, "NotSafe")

    def test_capped(self):
        self.assert_walks(CappedLive, "lost", "NotSafe", "TooLate")

    def test_strict_and_capped(self):
        self.assert_walks(StrictCappedLive, "NotSafe", "TooLate")


class Properties(Case):
    def assert_tells(self, live, **expected):
        for name, value in expected.items():
            answer = len(live) if name == "many" else getattr(live, name)
            self.assertEqual(answer, value, name)
            self.assertIs(type(answer), type(value))

    def test_at_the_beginning(self):
        for kind in CLASSES:
            for plan in (A, D, TASKS, CHAIN, LIMIT):
                live, nothing = kind(plan), (None,) * len(plan[1])
                self.assert_tells(
                    live, plan=plan, now=0, history=(0, nothing), running=[], left=ours(plan), done=False, many=0
                )
                self.assertEqual([live[event] for event in plan[1]], list(nothing))
            self.assert_tells(kind(EMPTY), plan=EMPTY, now=0, history=(0, ()), running=[], left=[], done=True, many=0)

    def test_in_the_midst(self):
        live = played_by(Live, TASKS, (), "a", (), ("b", "c"))
        self.assert_tells(
            live, now=3, history=(3, (1, 3, 3, None, None)), running=["d"], left=["e"], done=False, many=3,
        )
        self.assertEqual([live[event] for event in "abcde"], [1, 3, 3, None, None])
        live = played_by(Live, A, (), (), "c")
        self.assert_tells(live, now=2, history=(2, (None, None, 2)), running=[], left=["a"], done=False, many=1)

    def test_running_ends_ascend(self):
        # In the order of the tasks the end of the first one comes last.
        live = played_by(Live, (9, ("a", "b", "c", "z"), (), (("a", "z", 2, 9), ("b", "c", 2, 9))), "b", "a")
        self.assertEqual(live.running, ["c", "z"])

    def test_when_all_has_happened(self):
        live = played_by(Live, A, "a", (), ("b",), (), "c", ())
        self.assert_tells(live, now=4, history=(4, (0, 2, 3)), running=[], left=[], done=True, many=3)
        self.assertEqual([live[event] for event in "abc"], [0, 2, 3])

    def test_what_is_no_event(self):
        for kind in CLASSES:
            for live in (kind(A), played_by(kind, A, "a")):
                for value in OTHERS + ["go", "d", "ab", ["a"], ("a",), b"a", Equal(), slice(0, 1), -1, True]:
                    if value != "a" or isinstance(value, Equal):
                        with self.subTest(value=value), self.assertRaises(InvalidEvent):
                            live[value]

    def test_properties_cannot_be_set(self):
        live = StrictCappedLive(A)
        for name in ("plan", "now", "history", "running", "left", "done", "most"):
            with self.assertRaises(AttributeError):
                setattr(live, name, None)
        with self.assertRaises(TypeError):
            list(live)

    def test_advice_and_wait_until(self):
        told = set()
        for number in range(30):
            plan = made_plan(number, events=3, bounds=3, tasks=2, latest=4, slack=1)
            for history in list(Player(plan).histories(5))[:60]:
                live = Live(plan)
                live._history = history
                self.assertEqual(outcome(live.advice), outcome(advice, plan, history))
                self.assertEqual(outcome(live.wait_until), outcome(wait_until, plan, history))
                told.add(outcome(live.wait_until))
        self.assertGreater(len(told), 4)
        for kind in CLASSES:
            live = kind(D)
            for call in (live.advice, live.wait_until):
                self.assert_refused(live, NotSafe, call)


class TakenBack(Case):
    def test_to_the_beginning_and_once_more(self):
        for kind in CLASSES:
            live = kind(A)
            self.assert_refused(live, NothingToUndo, live.undo)
            live = played_by(kind, A, (), "a", (), ("b",), "c", ())
            for name in ("pass_on", "start", "pass_on", "pass_on", "start", "pass_on"):
                self.assertEqual(live.undo(), name)
            self.assertEqual(live.history, (0, NONE))
            self.assert_refused(live, NothingToUndo, live.undo)
            self.assertEqual([live.start("a"), live.undo()], ["safe", "start"])
            self.assert_refused(live, NothingToUndo, live.undo)

    def test_and_calls_anew(self):
        live = played_by(Live, A, "a", (), ("b",), "c")
        self.assertEqual([live.undo(), live.undo(), live.running, live.now], ["start", "pass_on", ["b"], 1])
        self.assertEqual([live.pass_on(), live.pass_on("b"), live.history], ["safe", "safe", (3, (0, 3, None))])
        self.assertEqual([live.undo() for _ in range(4)], ["pass_on", "pass_on", "pass_on", "start"])
        self.assertEqual(live.history, (0, NONE))

    def test_calls_that_raised_an_error_are_not_taken_back(self):
        live = played_by(StrictLive, A, "a")
        for error, call, value in (
            (Started, live.start, "a"), (InvalidEvent, live.start, "b"), (InvalidEnds, live.pass_on, "c"),
            (NotSafe, live.start, "c"), (InvalidEvent, live.__getitem__, "d"),
        ):
            self.assert_refused(live, error, call, value)
        self.assertEqual(live.undo(), "start")
        self.assert_refused(live, NothingToUndo, live.undo)

    def test_other_calls_are_not_taken_back(self):
        live = played_by(Live, A, "a")
        live.advice(), live.wait_until(), live.tell(), live.twin(), live.running, live["a"], len(live)
        self.assertEqual([live.undo(), live.history], ["start", (0, NONE)])


class Twins(Case):
    def test_neither_changes_the_other_one(self):
        for kind in CLASSES:
            live = played_by(kind, A, (), "a", ())
            twin = live.twin()
            self.assertIs(type(twin), kind)
            self.assertIsNot(twin, live)
            self.assertEqual(state_of(twin), state_of(live))
            self.assertEqual(twin.tell(), live.tell())
            live.pass_on("b")
            live.start("c")
            self.assertEqual(twin.history, (2, (1, None, None)))
            twin.pass_on()
            self.assertEqual(live.history, (3, (1, 3, 3)))
            self.assertEqual(twin.history, (3, (1, None, None)))

    def test_undo_of_either_one(self):
        for kind in CLASSES:
            live = played_by(kind, A, (), "a", ())
            twin, other = live.twin(), live.twin()
            self.assertEqual([live.undo(), live.undo(), live.now], ["pass_on", "start", 1])
            self.assertEqual(twin.history, (2, (1, None, None)))
            self.assertEqual([twin.undo() for _ in range(3)], ["pass_on", "start", "pass_on"])
            self.assert_refused(twin, NothingToUndo, twin.undo)
            self.assertEqual([live.undo(), live.history], ["pass_on", (0, NONE)])
            self.assert_refused(live, NothingToUndo, live.undo)
            self.assertEqual([other.undo(), other.history], ["pass_on", (1, (1, None, None))])

    def test_twins_of_twins_and_of_other_plans(self):
        for kind in CLASSES:
            for plan in (A, D, EMPTY, LIMIT):
                one = kind(plan).twin().twin()
                self.assertIs(type(one), kind)
                self.assertEqual(state_of(one), state_of(kind(plan)))
                self.assert_refused(one, NothingToUndo, one.undo)


class Words(unittest.TestCase):
    def test_against_safe(self):
        told = set()
        for plan in (A, D, E, G, S, T, TASKS, CHAIN) + tuple(made_plan(k, slack=1) for k in range(40)):
            live = Live(plan)
            for step in range(3 * plan[0]):
                left = live.left
                if left and step % 3 == 0:
                    word = live.start(left[step % len(left)])
                else:
                    # Every second time the tasks end as soon as they may.
                    ends = [end for end in live.running if step % 2 and self.may_pass(live, end)]
                    word = live.pass_on(*ends) if self.may_pass(live, *ends) else live.pass_on(*live.running)
                self.assertTrue(is_history(plan, live.history))
                self.assertEqual(word, "safe" if safe(plan, live.history) else "lost")
                told.add((word, live.now > plan[0]))
        self.assertGreaterEqual(told, {("safe", False), ("lost", False), ("lost", True)})

    def may_pass(self, live, *ends):
        try:
            live.twin().pass_on(*ends)
        except PlanError:
            return False
        return True


if __name__ == "__main__":
    unittest.main()
