"""[25] and [26]: what live runs tell, live runs that are read, and those that are strict or capped."""

import unittest

from startnow.errors import (
    InvalidEnds, InvalidEvent, InvalidNumber, InvalidPlan, InvalidText, NothingToUndo, NotSafe, Started, TooLate,
)
from startnow.histories import can_keep, safe, safe_to_wait
from startnow.lives import CappedLive, Live, StrictCappedLive, StrictLive
from startnow.plans import is_plan
from startnow.texts import show_history, show_plan
from tests.game import Player
from tests.plays import CLASSES, state_of, walk
from tests.samples import A, CHAIN, D, E, EMPTY, Equal, G, LIMIT, NONE, OTHERS, S, made_plan, with_part
from tests.test_lives import Case, played_by

WRONG = with_part(D, (3, 0, 2), 0)
TEXT_A = "latest 10; events a b c; bounds b c 2, c b 0; tasks a b 1 3"
# Histories of A that are not safe, by their texts.
LOST = (
    "at 5; a 0, b 2", "at 8; none", "at 11; none", "at 0; a 0, c 0", "at 12; a 8, b 11, c 11", "at 3; a 0, b 2, c 1",
)
# A safe history behind latest.
BEHIND = "at 41; a 0, b 2, c 2"
NO_NUMBERS = [value for value in OTHERS if not isinstance(value, int) or value is True or value is False or value < 0]


class ClassValues(unittest.TestCase):
    def test_parts(self):
        for kind in CLASSES:
            self.assertEqual(kind.PARTS, 4)
            self.assertIs(type(kind.PARTS), int)
            self.assertEqual(kind(A).PARTS, len(A))

    def test_is_valid(self):
        for kind in CLASSES:
            for value in OTHERS + [
                A, D, E, EMPTY, LIMIT, WRONG, list(A), A[:3], A + (0,), TEXT_A, Live(A), (1, (), (), []),
            ]:
                self.assertIs(kind.is_valid(value), is_plan(value))
                self.assertIs(kind.is_valid(value=value), is_plan(value))
                self.assertIs(kind(A).is_valid(value), is_plan(value))

    def test_subclasses(self):
        for kind in (StrictLive, CappedLive, StrictCappedLive):
            self.assertTrue(issubclass(kind, Live))
        self.assertTrue(issubclass(StrictCappedLive, StrictLive) and issubclass(StrictCappedLive, CappedLive))
        self.assertFalse(issubclass(StrictLive, CappedLive) or issubclass(CappedLive, StrictLive))


class Told(Case):
    def test_at_each_stage(self):
        x = Live(A)
        self.assertEqual(x.tell(), [TEXT_A, "at 0; none", "safe"])
        for call, arguments, history, word in (
            (x.start, "a", "at 0; a 0", "safe"), (x.pass_on, "", "at 1; a 0", "safe"),
            (x.pass_on, "b", "at 2; a 0, b 2", "safe"), (x.start, "c", "at 2; a 0, b 2, c 2", "safe"),
            (x.undo, "", "at 2; a 0, b 2", "safe"), (x.pass_on, "", "at 3; a 0, b 2", "safe"),
            (x.pass_on, "", "at 4; a 0, b 2", "safe"), (x.pass_on, "", "at 5; a 0, b 2", "lost"),
            (x.start, "c", "at 5; a 0, b 2, c 5", "lost"), (x.undo, "", "at 5; a 0, b 2", "lost"),
        ):
            call(*arguments)
            self.assertEqual(x.tell(), [TEXT_A, history, word])
        self.assertEqual(Live(EMPTY).tell(), ["latest 0; events; bounds; tasks", "at 0; none", "safe"])
        self.assertEqual(Live(D).tell()[1:], ["at 0; none", "lost"])

    def test_further_strings_in_their_order(self):
        self.assertEqual(StrictLive(A).tell(), [TEXT_A, "at 0; none", "safe", "strict"])
        self.assertEqual(CappedLive(A).tell(), [TEXT_A, "at 0; none", "safe", "most 40"])
        self.assertEqual(CappedLive(A, 0).tell(), [TEXT_A, "at 0; none", "safe", "most 0"])
        self.assertEqual(StrictCappedLive(A).tell(), [TEXT_A, "at 0; none", "safe", "strict", "most 40"])
        self.assertEqual(StrictCappedLive(D, most=100).tell()[1:], ["at 0; none", "lost", "strict", "most 100"])
        y = StrictCappedLive(A, most=9)
        self.assertEqual(
            [y.start("a"), y.pass_on(), y["a"], y["b"], y.tell()[1:]],
            ["safe", "safe", 0, None, ["at 1; a 0", "safe", "strict", "most 9"]],
        )

    def test_telling_changes_nothing(self):
        for kind in CLASSES:
            live = played_by(kind, A, "a", ())
            before = state_of(live)
            told = live.tell()
            told.clear()
            self.assertEqual(len(live.tell()), 3 + issubclass(kind, StrictLive) + issubclass(kind, CappedLive))
            self.assertEqual(state_of(live), before)


class Read(Case):
    def assert_read(self, kind, plan, text, history):
        for live in (kind.read(plan, text), kind.read(plan=plan, text=text), kind.read(text=text, plan=plan)):
            self.assertIs(type(live), kind)
            self.assertEqual((live.plan, live.history, live.now), (plan, history, history[0]))
            self.assert_refused(live, NothingToUndo, live.undo)
            if isinstance(live, CappedLive):
                self.assertEqual(live.most, 40)
        return live

    def assert_no_read(self, kind, error, plan, text):
        for call in (lambda: kind.read(plan, text), lambda: kind.read(text=text, plan=plan)):
            with self.subTest(kind=kind, plan=plan, text=text), self.assertRaises(error) as caught:
                call()
            self.assertIs(type(caught.exception), error)

    def test_what_was_told_is_read(self):
        for kind in CLASSES:
            live = kind(A)
            for name, *arguments in (
                ("start", "a"), ("pass_on",), ("pass_on", "b"), ("pass_on",), ("start", "c"), ("pass_on",),
            ):
                getattr(live, name)(*arguments)
                again = self.assert_read(kind, A, live.tell()[1], live.history)
                self.assertEqual(again.tell(), live.tell())
                self.assertEqual(state_of(again), state_of(live))

    def test_all_histories_of_small_plans(self):
        told = set()
        for number in range(12):
            plan = made_plan(number, events=3, bounds=3, tasks=2, latest=3, slack=1)
            for history in Player(plan).histories(4):
                text = show_history(plan, history)
                for kind in (Live, CappedLive):
                    self.assert_read(kind, plan, text, history)
                for kind in (StrictLive, StrictCappedLive):
                    told.add(safe(plan, history))
                    if safe(plan, history):
                        self.assert_read(kind, plan, text, history)
                    else:
                        self.assert_no_read(kind, NotSafe, plan, text)
        self.assertEqual(told, {True, False})

    def test_going_on_from_there(self):
        live = self.assert_read(StrictCappedLive, A, "at 1; a 0", (1, (0, None, None)))
        self.assertEqual(
            [live.pass_on("b"), live.start("c"), live.undo(), live.undo()], ["safe", "safe", "start", "pass_on"],
        )
        self.assertEqual(live.history, (1, (0, None, None)))
        self.assert_refused(live, NothingToUndo, live.undo)
        twin = live.twin()
        self.assert_refused(twin, NothingToUndo, twin.undo)

    def test_off_an_object(self):
        live = played_by(StrictLive, A, "a")
        self.assertIs(type(live.read(A, "at 0; none")), StrictLive)
        self.assertEqual(live.history, (0, (0, None, None)))

    def test_invalid_plan_comes_first(self):
        for kind in CLASSES:
            for plan in OTHERS + [WRONG, list(A)]:
                for text in ("at 0; none", "at 99; none", "at", None):
                    self.assert_no_read(kind, InvalidPlan, plan, text)

    def test_invalid_text(self):
        for kind in CLASSES:
            for plan in (A, D):
                for text in OTHERS + [
                    "at 3; a 0", "at 0", "at 0; d 0", "at 1; a 2", TEXT_A, "at 50; a 49, b 49", "at 00; none",
                    (0, NONE),
                    "at 41", "at 99; a 0", "at 0; none ", ["at 0; none"],
                ]:
                    self.assert_no_read(kind, InvalidText, plan, text)

    def test_not_safe(self):
        for text in LOST:
            for kind in (StrictLive, StrictCappedLive):
                self.assert_no_read(kind, NotSafe, A, text)
            for kind in (Live, CappedLive):
                self.assertEqual(kind.read(A, text).tell()[2], "lost")
        for kind in (StrictLive, StrictCappedLive):
            self.assert_no_read(kind, NotSafe, D, "at 0; none")

    def test_too_late(self):
        for kind in (CappedLive, StrictCappedLive):
            self.assert_no_read(kind, TooLate, A, BEHIND)
            # It is not safe either.
            self.assert_no_read(kind, TooLate, A, "at 41; none")
            self.assert_no_read(kind, TooLate, D, "at 41; none")
            self.assert_read(kind, A, "at 40; a 0, b 2, c 2", (40, (0, 2, 2)))
        self.assert_no_read(StrictLive, NotSafe, A, "at 41; none")
        self.assert_no_read(StrictCappedLive, NotSafe, A, "at 40; none")
        self.assert_read(StrictLive, A, BEHIND, (41, (0, 2, 2)))
        self.assert_read(Live, A, "at 140; none", (140, NONE))
        self.assert_read(CappedLive, A, "at 40; none", (40, NONE))


class Strict(Case):
    def test_starts(self):
        for kind in (StrictLive, StrictCappedLive):
            live = played_by(kind, A, "a")
            self.assert_refused(live, NotSafe, live.start, "c")
            self.assert_refused(live, NotSafe, live.start, event="c")
            live.pass_on()
            live.pass_on("b")
            self.assertEqual(live.start("c"), "safe")

    def test_waiting(self):
        for kind in (StrictLive, StrictCappedLive):
            live = played_by(kind, A, "a", (), ("b",), (), ())
            self.assertIs(safe_to_wait(A, live.history), False)
            self.assert_refused(live, NotSafe, live.pass_on)
            self.assertEqual([live.start("c"), live.pass_on()], ["safe", "safe"])

    def test_waiting_that_would_be_lucky(self):
        # c has to come ahead of the end b by one moment at least; at 1 it is not safe to wait, whatever is seen.
        ahead = (10, ("a", "b", "c"), (("b", "c", -1),), (("a", "b", 2, 4),))
        for kind in (StrictLive, StrictCappedLive):
            live = played_by(kind, ahead, "a", ())
            self.assertIs(safe_to_wait(ahead, live.history), False)
            self.assert_refused(live, NotSafe, live.pass_on)
            self.assert_refused(live, NotSafe, live.pass_on, "b")
            self.assertEqual([live.start("c"), live.pass_on("b")], ["safe", "safe"])
        live = played_by(Live, ahead, "a", ())
        self.assertEqual(live.pass_on(), "safe")
        # Behind latest nothing can be lucky; a run that has kept its plan goes on there.
        live = played_by(StrictLive, A, "a", (), (), ("b",), "c")
        for _ in range(20):
            self.assertEqual(live.pass_on(), "safe")

    def test_earlier_errors_come_first(self):
        for kind in (StrictLive, StrictCappedLive):
            live = played_by(kind, A, "a")
            for value in ("b", "d", None, Equal()):
                self.assert_refused(live, InvalidEvent, live.start, value)
            self.assert_refused(live, Started, live.start, "a")
            live = played_by(kind, A, "a", (), ("b",), (), ())
            for ends in (("b",), ("c",), (None,), ("b", "b")):
                self.assert_refused(live, InvalidEnds, live.pass_on, *ends)

    def test_plans_that_cannot_be_kept(self):
        for kind in (StrictLive, StrictCappedLive):
            for plan in (D, E, G):
                live = kind(plan)
                self.assertEqual(live.history, (0, (None,) * len(plan[1])))
                self.assert_refused(live, NotSafe, live.pass_on)
                self.assert_refused(live, InvalidEnds, live.pass_on, "b")
                for event in live.left:
                    self.assert_refused(live, NotSafe, live.start, event)
                self.assert_refused(live, InvalidEvent, live.start, "b")
                self.assertEqual(live.tell()[2:4], ["lost", "strict"])
                self.assertEqual(state_of(live.twin()), state_of(live))

    def test_it_stays_safe(self):
        for number in range(60):
            plan = made_plan(number, slack=1)
            if can_keep(plan):
                for kind in (StrictLive, StrictCappedLive):
                    for what, answer, _ in walk(number, kind, plan, 30):
                        if what == "state":
                            self.assertIs(safe(plan, answer["history"]), True)


class Capped(Case):
    def test_most(self):
        for kind in (CappedLive, StrictCappedLive):
            for live, most in (
                (kind(A), 40), (kind(A, 0), 0), (kind(A, 7), 7), (kind(A, most=9), 9), (kind(plan=A, most=140), 140),
                (kind(most=3, plan=A), 3), (kind(A, 10 ** 9), 10 ** 9),
            ):
                self.assertEqual(live.most, most)
                self.assertIs(type(live.most), int)

    def test_invalid_number(self):
        for kind in (CappedLive, StrictCappedLive):
            for most in NO_NUMBERS:
                for plan in (A, D):
                    with self.subTest(most=most), self.assertRaises(InvalidNumber):
                        kind(plan, most)
                    with self.assertRaises(InvalidNumber):
                        kind(most=most, plan=plan)
                for plan in (WRONG, None, list(A)):
                    with self.assertRaises(InvalidPlan):
                        kind(plan, most)
                    with self.assertRaises(InvalidPlan):
                        kind(most=most, plan=plan)

    def test_going_on_to_most(self):
        for most in (0, 1, 2, 5, 12):
            live = CappedLive(A, most)
            for now in range(1, most + 1):
                self.assertEqual(live.pass_on(), "safe" if now <= 7 else "lost")
            self.assertEqual(live.now, most)
            self.assert_refused(live, TooLate, live.pass_on)
            self.assertIn(live.start("a"), ("safe", "lost"))
            self.assert_refused(live, TooLate, live.pass_on)
            self.assert_refused(live, TooLate, live.pass_on, "b")
        live = played_by(CappedLive, A, *[()] * 40)
        self.assert_refused(live, TooLate, live.pass_on)
        self.assertEqual([live.undo(), live.pass_on()], ["pass_on", "lost"])
        self.assert_refused(live, TooLate, live.pass_on)

    def test_invalid_ends_come_first(self):
        for kind in (CappedLive, StrictCappedLive):
            live = kind(A, 0)
            live.start("a")
            for ends in (("a",), ("c",), ("b", "b"), (None,), ("b", Equal())):
                self.assert_refused(live, InvalidEnds, live.pass_on, *ends)
            live = kind(A, 2)
            for step in ("a", (), ()):
                live.start(step) if step == "a" else live.pass_on()
            # The task has to end at the next moment, which is too late anyway.
            self.assert_refused(live, InvalidEnds, live.pass_on)
            self.assert_refused(live, TooLate, live.pass_on, "b")

    def test_starts_are_not_capped(self):
        live = CappedLive(A, 0)
        self.assertEqual([live.start("a"), live.start("c")], ["safe", "lost"])
        self.assert_refused(live, Started, live.start, "a")
        self.assert_refused(live, InvalidEvent, live.start, "b")

    def test_too_late_comes_before_not_safe(self):
        for plan in (D, G, E):
            live = StrictCappedLive(plan, 0)
            self.assert_refused(live, TooLate, live.pass_on)
            self.assert_refused(live, NotSafe, live.start, "a")
            live = StrictCappedLive(plan, 1)
            self.assert_refused(live, NotSafe, live.pass_on)
        live = StrictCappedLive(A, 4)
        for step in ("a", (), ("b",), (), ()):
            live.start(step) if step == "a" else live.pass_on(*step)
        self.assertIs(safe_to_wait(A, live.history), False)
        self.assert_refused(live, TooLate, live.pass_on)
        self.assert_refused(live, InvalidEnds, live.pass_on, "b")
        self.assertEqual(live.start("c"), "safe")
        self.assert_refused(live, TooLate, live.pass_on)

    def test_twins_keep_their_class_and_most(self):
        for kind in (CappedLive, StrictCappedLive):
            for most in (0, 1, 9, 40, 77):
                live = kind(S, most)
                live.start("a")
                for twin in (live.twin(), live.twin().twin()):
                    self.assertIs(type(twin), kind)
                    self.assertEqual((twin.most, twin.tell(), twin.history), (most, live.tell(), live.history))
                    self.assertEqual(twin.undo(), "start")
                self.assertEqual(live["a"], 0)
        live = CappedLive(A, 1)
        live.pass_on()
        self.assert_refused(live.twin(), TooLate, live.twin().pass_on)

    def test_no_most_elsewhere(self):
        for kind in (Live, StrictLive):
            with self.assertRaises(AttributeError):
                kind(A).most
            with self.assertRaises(TypeError):
                kind(A, 9)


class Texts(unittest.TestCase):
    def test_plans_that_were_told(self):
        for plan in (A, D, CHAIN, LIMIT, EMPTY):
            for kind in CLASSES:
                self.assertEqual(kind(plan).tell()[0], show_plan(plan))


if __name__ == "__main__":
    unittest.main()
