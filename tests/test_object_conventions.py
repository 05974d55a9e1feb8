"""[1], [2] and [3] for texts, designs and live runs, and what the interface lists of them."""

import copy
import inspect
import unittest

from startnow import designs, errors, lives, texts
from startnow.designs import Design
from startnow.errors import (
    InvalidBound, InvalidEnds, InvalidEvent, InvalidHistory, InvalidNumber, InvalidPair, InvalidPlan, InvalidRun,
    InvalidText, NotDesign, NothingToUndo, NotKept, NotSafe, OtherTasks, PlanError, SameEvent, Started, TooLate,
)
from startnow.lives import CappedLive, Live, StrictCappedLive, StrictLive
from startnow.texts import parse_history, parse_plan, show_history, show_plan
from tests.plays import CLASSES, state_of
from tests.samples import A, CHAIN, D, E, EMPTY, G, LIMIT, NONE, OTHERS, S, lists_within, with_part
from tests.test_errors import NAMES

WRONG = with_part(D, (3, 0, 2), 0)
HISTORY = (2, (0, 2, None))
FUNCTIONS = {
    "show_plan": ["plan"], "parse_plan": ["text"], "show_history": ["plan", "history"],
    "parse_history": ["plan", "text"],
}
DESIGN = {
    "__bool__": [], "__contains__": 1, "__eq__": 1, "__add__": 1, "__sub__": 1, "__and__": 1, "__getitem__": 1,
    "__call__": ["history"], "table": [], "paper": [], "barring": [], "blame": ["run"], "least_most": ["x", "y"],
    "gap": ["x", "y"],
}
LIVE = {
    "__len__": [], "__getitem__": 1, "start": ["event"], "pass_on": ["ends"], "advice": [], "wait_until": [],
    "undo": [], "twin": [], "tell": [],
}
PROPERTIES = {Design: ["plan"], Live: ["plan", "now", "history", "running", "left", "done"], CappedLive: ["most"]}


def running(kind=Live):
    """A live run in which b is seen, and c has to be started by 4."""
    live = kind(A)
    live.start("a")
    live.pass_on()
    live.pass_on("b")
    return live


def waiting():
    """A strict and capped live run that may not wait, and may not go on beyond its moment."""
    live = StrictCappedLive(A, 4)
    live.start("a")
    live.pass_on()
    live.pass_on("b")
    live.pass_on()
    live.pass_on()
    return live


class Interface(unittest.TestCase):
    def test_functions(self):
        for name, arguments in FUNCTIONS.items():
            function = getattr(texts, name)
            self.assertEqual(function.__module__, "startnow.texts")
            self.assertEqual(list(inspect.signature(function).parameters), arguments)

    def test_classes_stand_in_their_files(self):
        for module, kinds in ((designs, [Design]), (lives, CLASSES)):
            for kind in kinds:
                self.assertEqual(kind.__module__, module.__name__)
                self.assertIs(getattr(module, kind.__name__), kind)

    def test_methods_are_defined_in_the_class_itself(self):
        for kind, methods in ((Design, DESIGN), (Live, LIVE)):
            for name, arguments in methods.items():
                with self.subTest(kind=kind, name=name):
                    self.assertTrue(inspect.isfunction(kind.__dict__[name]))
                    names = list(inspect.signature(kind.__dict__[name]).parameters)[1:]
                    self.assertEqual(len(names) if isinstance(arguments, int) else names, arguments)
        for kind, names in PROPERTIES.items():
            for name in names:
                self.assertIsInstance(kind.__dict__[name], property)
                self.assertIsNone(kind.__dict__[name].fset)

    def test_static_and_class_methods(self):
        self.assertIsInstance(Live.__dict__["is_valid"], staticmethod)
        self.assertIsInstance(Live.__dict__["read"], classmethod)
        self.assertEqual(list(inspect.signature(Live.is_valid).parameters), ["value"])
        self.assertEqual(list(inspect.signature(Live.read).parameters), ["plan", "text"])
        self.assertEqual(Live.__dict__["PARTS"], 4)

    def test_what_a_class_is_made_from(self):
        for kind, arguments in (
            (Design, "(plan)"), (Live, "(plan)"), (StrictLive, "(plan)"), (CappedLive, "(plan, most=40)"),
            (StrictCappedLive, "(plan, most=40)"),
        ):
            self.assertEqual(str(inspect.signature(kind)), arguments)

    def test_kinds_of_the_answers(self):
        design, live = Design(A), running()
        for answer, kind in (
            (show_plan(A), str), (parse_plan(show_plan(A)), tuple), (show_history(A, HISTORY), str),
            (parse_history(A, "at 2; a 0, b 2"), tuple), (bool(design), bool), ((0, 2, 2) in design, bool),
            (design == design, bool), (design["a", "b"], int), (design(HISTORY), list), (design.plan, tuple),
            (design.table(), list), (design.paper(), type(None)), (Design(D).paper(), tuple),
            (Design(D).barring(), list),
            (Design(S).gap("a", "b"), tuple), (design.least_most("a", "b"), int), (design.blame((0, 2, 1)), tuple),
            (live.plan, tuple), (live.now, int), (live.history, tuple), (live.running, list), (live.left, list),
            (live.done, bool), (len(live), int), (live["a"], int), (live["c"], type(None)), (live.tell(), list),
            (live.advice(), list), (live.wait_until(), int), (live.undo(), str), (live.pass_on(), str),
            (live.twin(), Live), (Live.is_valid(A), bool), (Live.read(A, "at 0; none"), Live),
            (CappedLive(A).most, int),
        ):
            self.assertIs(type(answer), kind, answer)


class Arguments(unittest.TestCase):
    def test_by_name(self):
        text, told = show_plan(A), show_history(A, HISTORY)
        self.assertEqual(show_plan(plan=A), text)
        self.assertEqual(parse_plan(text=text), A)
        self.assertEqual(show_history(history=HISTORY, plan=A), told)
        self.assertEqual(show_history(A, history=HISTORY), told)
        self.assertEqual(parse_history(text=told, plan=A), HISTORY)
        self.assertEqual(parse_history(A, text=told), HISTORY)
        design = Design(plan=S)
        self.assertEqual(design(history=(0, NONE)), design((0, NONE)))
        self.assertEqual(design.blame(run=(0, 1, 2)), design.blame((0, 1, 2)))
        self.assertEqual(design.least_most(y="c", x="a"), design.least_most("a", "c"))
        self.assertEqual(design.gap("a", y="c"), (1, 3))
        self.assertEqual(design.gap(y="c", x="a"), (1, 3))
        self.assertEqual(Live(plan=A).start(event="a"), "safe")
        self.assertEqual(CappedLive(most=3, plan=A).most, 3)

    def test_they_stay_as_they_are(self):
        design, live = Design(D), running(StrictCappedLive)
        for call in (
            show_plan, parse_plan, Design, design.blame, lambda value: value in design, lambda value: design == value,
            lambda value: design + value, lambda value: design - value, lambda value: design & value, design,
            lambda value: design[value], lambda value: design.gap(value, value), live.start, live.pass_on,
            lambda value: live.pass_on(value, value), lambda value: live[value], live.is_valid, Live,
            lambda value: show_history(A, value), lambda value: parse_history(A, value),
            lambda value: Live.read(A, value),
            lambda value: CappedLive(A, value), lambda value: design.least_most(value, "a"),
        ):
            for value in (
                [3, 1, 2], [[2], ["b"]], ["b", "c"], [0, [0, 2, 2]], (2, [0, 2, None]), {"b": ["c"]}, ["b", "c", 1],
            ):
                before, other = repr(value), copy.deepcopy(value)
                try:
                    call(value)
                except PlanError:
                    pass
                self.assertEqual((value, repr(value)), (other, before))
        self.assertEqual(state_of(live), state_of(running(StrictCappedLive)))
        self.assertEqual(design.plan, D)


class NewLists(unittest.TestCase):
    def assert_new(self, call):
        """A list that was returned is changed: the same call tells the same again."""
        first, second = call(), call()
        before = copy.deepcopy(first)
        objects = lists_within(first) + lists_within(second)
        self.assertGreater(len(objects), 1)
        self.assertEqual(len(objects), len({id(one) for one in objects}))
        for one in lists_within(first):
            one.append("spoilt")
            one.reverse()
        self.assertEqual(second, before)
        self.assertEqual(call(), before)

    def test_designs(self):
        for plan in (A, LIMIT, CHAIN, EMPTY):
            self.assert_new(Design(plan).table)
            self.assert_new(lambda: Design(plan)((0, (None,) * len(plan[1]))))
        for plan in (D, E, G):
            design = Design(plan)
            self.assert_new(design.paper)
            self.assert_new(design.barring)
            self.assert_new(lambda: self.reason(design.table))
            self.assert_new(lambda: self.reason(lambda: design["a", "b"]))
            self.assertEqual(bool(design), False)
            self.assertEqual(design.plan, plan)

    def reason(self, call):
        with self.assertRaises(NotKept) as caught:
            call()
        return caught.exception.reason

    def test_live_runs(self):
        for kind in CLASSES:
            for live in (kind(A), running(kind), kind(LIMIT), running(kind).twin(), kind.read(A, "at 1; a 0")):
                before = state_of(live)
                for call in (lambda: live.running, lambda: live.left, live.advice, live.tell):
                    self.assert_new(call)
                self.assertEqual(state_of(live), before)


# Calls of which the first argument that is wrong tells the error, though later ones are wrong as well.
ORDER = [
    (show_plan, {"plan": WRONG}, InvalidPlan),
    (show_history, {"plan": WRONG, "history": None}, InvalidPlan),
    (show_history, {"plan": WRONG, "history": (0, NONE)}, InvalidPlan),
    (show_history, {"plan": D, "history": (3, (0, None, None))}, InvalidHistory),
    (parse_plan, {"text": show_plan(A) + " "}, InvalidText),
    (parse_history, {"plan": WRONG, "text": None}, InvalidPlan),
    (parse_history, {"plan": WRONG, "text": "at 0; none"}, InvalidPlan),
    (parse_history, {"plan": D, "text": "at 3; a 0"}, InvalidText),
    (Design, {"plan": WRONG}, InvalidPlan),
    (Design(D), {"history": (3, (0, None, None))}, InvalidHistory),
    (Design(D), {"history": (0, NONE)}, NotSafe),
    (Design(D).blame, {"run": (0, 9, 9)}, InvalidRun),
    (Design(D).least_most, {"x": "z", "y": "z"}, InvalidEvent),
    (Design(D).least_most, {"x": "a", "y": "z"}, InvalidEvent),
    (Design(D).least_most, {"x": "z", "y": "a"}, InvalidEvent),
    (Design(D).least_most, {"x": "a", "y": "a"}, SameEvent),
    (Design(S).gap, {"x": "z", "y": "a"}, InvalidEvent),
    (Design(S).gap, {"x": "a", "y": "z"}, InvalidEvent),
    (Design(D).table, {}, NotKept),
    (running().start, {"event": "b"}, InvalidEvent),
    (running().start, {"event": "a"}, Started),
    (running(StrictLive).start, {"event": "a"}, Started),
    (waiting().start, {"event": "b"}, InvalidEvent),
    (waiting().start, {"event": "a"}, Started),
    (Live(A).undo, {}, NothingToUndo),
    (StrictLive(D).advice, {}, NotSafe),
    (StrictLive(D).wait_until, {}, NotSafe),
    (StrictLive(D).start, {"event": "a"}, NotSafe),
    (waiting().pass_on, {}, TooLate),
    (StrictLive(D).pass_on, {}, NotSafe),
]
for kind in CLASSES:
    ORDER.append((kind, {"plan": WRONG}, InvalidPlan))
    ORDER.append((kind.read, {"plan": WRONG, "text": None}, InvalidPlan))
    ORDER.append((kind.read, {"plan": WRONG, "text": "at 99; none"}, InvalidPlan))
    ORDER.append((kind.read, {"plan": D, "text": "at 99; a 0"}, InvalidText))
for kind in (CappedLive, StrictCappedLive):
    ORDER.append((kind, {"plan": WRONG, "most": -1}, InvalidPlan))
    ORDER.append((kind, {"plan": WRONG, "most": 5}, InvalidPlan))
    ORDER.append((kind, {"plan": D, "most": -1}, InvalidNumber))
    ORDER.append((kind, {"plan": A, "most": True}, InvalidNumber))
    ORDER.append((kind.read, {"plan": D, "text": "at 41; none"}, TooLate))
for kind in (StrictLive, StrictCappedLive):
    ORDER.append((kind.read, {"plan": D, "text": "at 0; none"}, NotSafe))
# What is passed by position alone.
POSITION = [
    (lambda: Design(D) + ("a", "a", True), InvalidBound),
    (lambda: Design(D) - ("a", "c"), InvalidPair),
    (lambda: Design(D) & E, NotDesign),
    (lambda: Design(D) & Design(E), OtherTasks),
    (lambda: Design(D)["a", "a"], InvalidPair),
    (lambda: Design(D)["a", "b"], NotKept),
    (lambda: Live(A)["go"], InvalidEvent),
    (lambda: waiting().pass_on("b"), InvalidEnds),
    (lambda: waiting().pass_on("c", "c"), InvalidEnds),
    (lambda: StrictLive(D).pass_on("b"), InvalidEnds),
    (lambda: CappedLive(A, 0).pass_on("b"), InvalidEnds),
]


class Order(unittest.TestCase):
    def assert_raised(self, error, call, *arguments, **named):
        with self.subTest(call=call, arguments=arguments, named=named), self.assertRaises(error) as caught:
            call(*arguments, **named)
        self.assertIs(type(caught.exception), error)
        self.assertIsInstance(caught.exception, PlanError)
        self.assertIsInstance(caught.exception, ValueError)

    def test_by_position_and_by_name(self):
        for call, arguments, error in ORDER:
            self.assert_raised(error, call, *arguments.values())
            self.assert_raised(error, call, **arguments)
            self.assert_raised(error, call, **dict(reversed(arguments.items())))
        for call, error in POSITION:
            self.assert_raised(error, call)

    def test_all_classes_that_are_listed_are_raised_by_objects(self):
        told = {error.__name__ for _, _, error in ORDER} | {error.__name__ for _, error in POSITION}
        self.assertEqual(set(NAMES) - told, {"InvalidTimes"})
        for name in NAMES:
            self.assertTrue(issubclass(getattr(errors, name), PlanError))

    def test_any_value_in_the_place_of_any_argument(self):
        """Nothing but an error of the package is raised, whatever is passed."""
        for call, arguments, _ in ORDER:
            for name in arguments:
                for value in OTHERS:
                    try:
                        call(**{**arguments, name: value})
                    except PlanError:
                        pass


if __name__ == "__main__":
    unittest.main()
