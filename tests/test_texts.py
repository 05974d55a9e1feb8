"""[19]: texts of plans and histories, written and read."""

import re
import unittest

from startnow.errors import InvalidHistory, InvalidPlan, InvalidText
from startnow.histories import is_history
from startnow.plans import is_plan
from startnow.texts import parse_history, parse_plan, show_history, show_plan
from tests.game import Player
from tests.samples import A, CHAIN, D, E, EMPTY, G, LIMIT, NONE, OTHERS, S, T, limit_plan, made_plan, with_part

TEXT = "latest 10; events a b c; bounds b c 2, c b 0; tasks a b 1 3"
# All that may stand in a text, and some signs more.
SIGNS = " ,;-+0123456789abcglnorsty_A.\n\t:"
NUMBER = r"(?:0|-?[1-9][0-9]*)"
NAME = r"[a-z]{1,8}"
BOUND = rf"{NAME} {NAME} {NUMBER}"
TASK = rf"{NAME} {NAME} {NUMBER} {NUMBER}"
PLAN = re.compile(
    rf"latest ({NUMBER}); events((?: {NAME})*); bounds((?: {BOUND}(?:, {BOUND})*)?); tasks((?: {TASK}(?:, {TASK})*)?)"
)
HISTORY = re.compile(rf"at ({NUMBER}); (none|{NAME} {NUMBER}(?:, {NAME} {NUMBER})*)")
# Plans whose events have the names of words of the texts, and numbers of many digits.
WORDS = (
    0,
    ("at", "bounds", "events", "latest", "none", "tasks"),
    (("at", "none", -1), ("go", "tasks", 0), ("none", "at", 1)),
    (("at", "tasks", 1, 2), ("none", "latest", 10, 100)),
)
LARGE = (999999, ("abcdefgh", "b"), (("abcdefgh", "b", -999999), ("b", "go", 999999)), (("b", "abcdefgh", 1, 999999),))
ALL = [A, D, E, G, S, T, EMPTY, CHAIN, LIMIT, WORDS, LARGE, (7, ("b",), (), ()), (3, (), (), ())]


def words_of(rows):
    """The rows of words of a text that the expression of a part has found."""
    found = [row.split(" ") for row in rows.strip().split(", ") if row]
    return [tuple(int(word) if word.strip("-").isdigit() else word for word in row) for row in found]


def naive_plan(text):
    """The plan of a text by the expressions, None if it is none."""
    found = PLAN.fullmatch(text)
    if not found:
        return None
    plan = (int(found[1]), tuple(found[2].split()), tuple(words_of(found[3])), tuple(words_of(found[4])))
    return plan if is_plan(plan) else None


def naive_history(plan, text):
    found = HISTORY.fullmatch(text)
    if not found:
        return None
    told = [] if found[2] == "none" else words_of(found[2])
    moments = dict(told)
    history = (int(found[1]), tuple(moments.get(event) for event in plan[1]))
    known = [event for event, moment in zip(plan[1], history[1]) if moment is not None]
    return history if is_history(plan, history) and known == [event for event, _ in told] else None


def changed_texts(text, signs=SIGNS):
    """All texts with one sign more, one less, another one, or two that have changed places."""
    for at in range(len(text) + 1):
        for sign in signs:
            yield text[:at] + sign + text[at:]
            if at < len(text):
                yield text[:at] + sign + text[at + 1:]
        yield text[:at] + text[at + 1:]
        yield text[:at] + text[at:at + 2][::-1] + text[at + 2:]


class Plans(unittest.TestCase):
    def assert_text(self, plan, text):
        self.assertEqual(show_plan(plan), text)
        self.assertEqual(parse_plan(text), plan)
        self.assertEqual(repr(parse_plan(text)), repr(plan))

    def assert_none(self, *texts):
        for text in texts:
            with self.subTest(text=text), self.assertRaises(InvalidText):
                parse_plan(text)

    def test_the_examples(self):
        self.assert_text(A, TEXT)
        self.assert_text(EMPTY, "latest 0; events; bounds; tasks")

    def test_parts_without_values(self):
        self.assert_text((7, ("b",), (), ()), "latest 7; events b; bounds; tasks")
        self.assert_text((7, ("a", "b"), (("a", "b", -3),), ()), "latest 7; events a b; bounds a b -3; tasks")
        self.assert_text((7, ("a", "b"), (), (("a", "b", 1, 1),)), "latest 7; events a b; bounds; tasks a b 1 1")

    def test_go_zero_and_large_numbers(self):
        self.assert_text(
            (1, ("a",), (("a", "go", 0), ("go", "a", 0)), ()), "latest 1; events a; bounds a go 0, go a 0; tasks",
        )
        self.assert_text(
            LARGE,
            "latest 999999; events abcdefgh b; bounds abcdefgh b -999999, b go 999999; tasks b abcdefgh 1 999999",
        )

    def test_events_with_the_names_of_parts(self):
        self.assert_text(
            WORDS,
            "latest 0; events at bounds events latest none tasks; bounds at none -1, go tasks 0, none at 1; "
            "tasks at tasks 1 2, none latest 10 100",
        )

    def test_plans_of_all_sizes(self):
        made = [made_plan(k, events=7, bounds=10, tasks=3, latest=40, time=40) for k in range(150)]
        made += [with_part(limit_plan(k), (2, k, 2), most) for k, most in enumerate((-100, 100, 0, -1, 99, -99))]
        for plan in ALL + made:
            text = show_plan(plan)
            self.assert_text(plan, text)
            self.assertEqual(naive_plan(text), plan)

    def test_one_sign_changed_at_each_place(self):
        read = 0
        for plan in (A, EMPTY, D, (7, ("go" * 2,), (), ()), (12, ("a", "ab"), (("a", "go", -10), ("ab", "a", 0)), ())):
            for text in changed_texts(show_plan(plan)):
                expected = naive_plan(text)
                if expected is None:
                    self.assert_none(text)
                else:
                    read += 1
                    self.assert_text(expected, text)
        self.assertGreater(read, 300)

    def test_spaces_marks_and_ends(self):
        self.assert_none(" " + TEXT, TEXT + " ", TEXT + "\n", "\n" + TEXT, TEXT + ";", TEXT + "; ", "; " + TEXT)
        for at, sign in enumerate(TEXT):
            if sign == " ":
                self.assert_none(
                    TEXT[:at] + " " + TEXT[at:], TEXT[:at] + TEXT[at + 1:], TEXT[:at] + "\t" + TEXT[at + 1:],
                )
            if sign in ";,":
                self.assert_none(TEXT[:at] + " " + TEXT[at:], TEXT[:at] + sign + TEXT[at:], TEXT[:at] + TEXT[at + 1:])
        self.assert_none("latest 0; events ; bounds; tasks", "latest 0; events; bounds ; tasks")
        self.assert_none(
            "latest 0; events; bounds; tasks ", "latest 0; events;  bounds; tasks", "latest 0;events;bounds;tasks",
        )

    def test_parts_that_are_missing_twice_or_elsewhere(self):
        parts = TEXT.split("; ")
        for one in range(4):
            self.assert_none("; ".join(parts[:one] + parts[one + 1:]))
            self.assert_none("; ".join(parts[:one] + parts[one:one + 1] + parts[one:]))
            for other in range(one):
                moved = list(parts)
                moved[one], moved[other] = moved[other], moved[one]
                self.assert_none("; ".join(moved))
            self.assert_none("; ".join(parts[:one] + [parts[one].split(" ")[0].upper()] + parts[one + 1:]))
            self.assert_none("; ".join(parts[:one] + [parts[one].partition(" ")[2]] + parts[one + 1:]))
        self.assert_none(
            "", " ", ";", "; ; ; ", "none", "latest; events; bounds; tasks", "Latest 0; events; bounds; tasks",
        )
        self.assert_none(
            "latest 0; event; bounds; tasks", "latest 0; events; bounds; task", "bounds 0; events; bounds; tasks",
        )
        self.assert_none("latest 0; events none; bounds none; tasks none", "latest 0; events; bounds none; tasks")

    def test_numbers(self):
        for number in (
            "00", "010", "-0", "+0", "+1", "-1", "--1", "1-", "1.0", "1e1", "1_0", "0x1", "", "-", "a", "1 0", "²",
            "٣",
        ):
            self.assert_none(f"latest {number}; events; bounds; tasks")
        for number in ("00", "02", "-0", "-02", "+2", "--2", "2-", "- 2", "2.0", "2_0", "", "-", "x", "2 0", "²", "-٣"):
            self.assert_none(f"latest 9; events a b; bounds a b {number}; tasks")
        for number in ("00", "02", "0", "-0", "-2", "+2", "2.0", "", "-", "x", "1 1", "²", "٣"):
            self.assert_none(f"latest 9; events a b; bounds; tasks a b {number} 9")
            self.assert_none(f"latest 9; events a b; bounds; tasks a b 2 {number}")

    def test_values_that_are_none_of_a_plan(self):
        for events in ("b a", "a a", "a b a", "A", "a1", "go", "a go", "abcdefghi", "a, b", "a; b", "1", "-"):
            self.assert_none(f"latest 9; events {events}; bounds; tasks")
        for bounds in (
            "a b", "a 2", "a b c 2", "a a 2", "go go 2", "a z 2", "z a 2", "2 a b", "a b 2, a b 3", "b a 1, a b 1",
            "a b 2 3", "a b 2,b a 1", "a b 2 , b a 1", "a b 2,", ", a b 2", "a b x", "a b a",
        ):
            self.assert_none(f"latest 9; events a b; bounds {bounds}; tasks")
        for tasks in (
            "a b 1", "a b 1 2 3", "a b", "a a 1 2", "a z 1 2", "go b 1 2", "a go 1 2", "a b 0 2", "a b 3 2",
            "a b 1 2, b a 1 2", "a b 1 2, c b 1 2", "b c 1 2, a b 1 2", "a b 1 2, a b 1 2", "a b 1 x", "1 2 a b",
        ):
            self.assert_none(f"latest 9; events a b c; bounds; tasks {tasks}")

    def test_values_of_all_other_kinds(self):
        for value in OTHERS + [A, [TEXT], (TEXT,), TEXT.encode(), {TEXT: 1}]:
            self.assert_none(value)

    def test_what_is_no_plan_is_not_written(self):
        for value in OTHERS + [TEXT, with_part(D, (3, 0, 2), 0), A[:3], list(A)]:
            with self.assertRaises(InvalidPlan):
                show_plan(value)


class Histories(unittest.TestCase):
    def assert_text(self, plan, history, text):
        self.assertEqual(show_history(plan, history), text)
        self.assertEqual(parse_history(plan, text), history)
        self.assertEqual(repr(parse_history(plan, text)), repr(history))

    def assert_none(self, plan, *texts):
        for text in texts:
            with self.subTest(text=text), self.assertRaises(InvalidText):
                parse_history(plan, text)

    def test_the_examples(self):
        self.assert_text(A, (2, (0, 2, None)), "at 2; a 0, b 2")
        self.assert_text(A, (0, NONE), "at 0; none")
        self.assert_text(A, (1, (0, None, None)), "at 1; a 0")

    def test_no_events_and_all_events(self):
        self.assert_text(EMPTY, (0, ()), "at 0; none")
        self.assert_text(EMPTY, (140, ()), "at 140; none")
        self.assert_text(A, (11, (9, 11, 11)), "at 11; a 9, b 11, c 11")
        self.assert_text(A, (123456, (100000, 100003, None)), "at 123456; a 100000, b 100003")
        self.assert_text(A, (5, (None, None, 0)), "at 5; c 0")

    def test_an_event_called_none(self):
        nothing = (None,) * 6
        self.assert_text(WORDS, (3, nothing), "at 3; none")
        self.assert_text(WORDS, (3, with_part(nothing, (4,), 2)), "at 3; none 2")
        self.assert_text(WORDS, (3, (2, None, 1, None, 3, 3)), "at 3; at 2, events 1, none 3, tasks 3")
        self.assert_none(WORDS, "at 3; none none", "at 3; none, none 2", "at 3; none 2, none")

    def test_all_histories_of_small_plans(self):
        many = 0
        for number in range(40):
            plan = made_plan(number, events=3, bounds=2, tasks=2, latest=3)
            for history in Player(plan).histories(3):
                text = show_history(plan, history)
                self.assert_text(plan, history, text)
                self.assertEqual(naive_history(plan, text), history)
                many += 1
        self.assertGreater(many, 1000)

    def test_one_sign_changed_at_each_place(self):
        read = 0
        for plan, history in (
            (A, (2, (0, 2, None))), (A, (0, NONE)), (A, (12, (9, 10, 12))), (EMPTY, (0, ())),
            (WORDS, (13, (None, None, 0, None, 10, None))),
            (CHAIN, (6, (3, 4, 6, None))), (LIMIT, (14, (8, 13, 10, 9, 14, None, None))),
        ):
            for text in changed_texts(show_history(plan, history)):
                expected = naive_history(plan, text)
                if expected is None:
                    self.assert_none(plan, text)
                else:
                    read += 1
                    self.assert_text(plan, expected, text)
        self.assertGreater(read, 100)

    def test_spaces_marks_and_words(self):
        self.assert_none(
            A, " at 2; a 0, b 2", "at 2; a 0, b 2 ", "at  2; a 0, b 2", "at 2;  a 0, b 2", "at 2; a 0,  b 2",
        )
        self.assert_none(A, "at 2; a 0,b 2", "at 2; a 0 , b 2", "at 2;a 0, b 2", "at 2 ; a 0, b 2", "at 2, a 0, b 2")
        self.assert_none(
            A, "at 2; a 0, b 2,", "at 2; a 0; b 2", "at 2; , a 0", "at 2; a 0 b 2", "at 2; a  0", "at 2; a 0\n",
        )
        self.assert_none(
            A, "2; a 0", "At 2; a 0", "now 2; a 0", "at; a 0", "at 2", "at 2; ", "at 2;", "; none", "none", "", "at",
        )
        self.assert_none(
            A, "at 2; None", "at 2; none; none", "at 2; none, a 0", "at 2; a 0, none", "at 2; none none", "at 2; a",
        )
        self.assert_none(
            A, "at 2; a 0; none", "at 2; none; a 0", "a 0, b 2; at 2", "at 2; a none", "at 2; a 0 0", "at 2; 0 a",
        )
        self.assert_none(EMPTY, "at 0", "at 0;", "at 0; ", "none", "at 0; a 0")

    def test_numbers(self):
        for number in ("00", "02", "-0", "-1", "+2", "--2", "2.0", "2_0", "", "-", "x", "2 0", "0x2", "²", "٣"):
            self.assert_none(A, f"at {number}; none", f"at 9; c {number}", f"at 9; a 7, c {number}")

    def test_what_is_no_history_of_the_plan(self):
        self.assert_none(A, "at 3; a 0", "at 9; b 3", "at 2; a 0, b 3", "at 9; a 0, b 4", "at 2; a 0, b 0", "at 1; c 2")
        # Of another plan, out of their order, twice.
        self.assert_none(
            A, "at 2; d 0", "at 2; a 0, d 2", "at 2; go 0", "at 2; b 2, a 0", "at 2; c 1, a 0", "at 2; a 0, a 0",
        )
        self.assert_none(A, "at 2; a 0, a 1", "at 2; a 0, b 2, a 0")
        self.assertEqual(parse_history(CHAIN, "at 1; a 0"), (1, (0, None, None, None)))
        self.assert_none(CHAIN, "at 2; a 0", "at 2; a 0, b 2, d 2")

    def test_values_of_all_other_kinds(self):
        for value in OTHERS + [(2, (0, 2, None)), (0, NONE), b"at 0; none", ["at 0; none"], TEXT]:
            self.assert_none(A, value)
            self.assert_none(D, value)
            self.assert_none(EMPTY, value)

    def test_what_is_no_history_is_not_written(self):
        for value in OTHERS + [
            (3, (0, None, None)), (2, [0, 2, None]), [2, (0, 2, None)], (1, (0, 2, None)), "at 0; none",
        ]:
            for plan in (A, D):
                with self.subTest(value=value), self.assertRaises(InvalidHistory):
                    show_history(plan, value)

    def test_a_wrong_plan_comes_first(self):
        for plan in OTHERS + [with_part(D, (3, 0, 2), 0)]:
            for history in ((0, NONE), None):
                with self.assertRaises(InvalidPlan):
                    show_history(plan, history)
            for text in ("at 0; none", "at", None):
                with self.assertRaises(InvalidPlan):
                    parse_history(plan, text)


if __name__ == "__main__":
    unittest.main()
