"""[13]: papers by each rule, wrong lines by each rule, rings, and what paper returns."""

import unittest

from startnow.errors import NotKept
from startnow.tables import is_paper, paper, table
from tests.naive import starting_edges
from tests.samples import A, CHAIN, D, E, EMPTY, G, LIMIT, OTHERS, limit_plan, made_plan, part_at, paths, with_part

LINES_OF_D = [
    (("b", "c", "", -1), "given", ()),
    (("a", "c", "", 0), "early", (0,)),
    (("c", "b", "", 2), "given", ()),
    (("b", "a", "b", -3), "longest", ()),
    (("c", "a", "b", -1), "sum", (2, 3)),
]
PAPER_OF_G = ([(("b", "a", "", -2), "given", ()), (("a", "a", "", -1), "early", (0,))], [1])

# The first two lines are a ring, so that any further line is right or wrong by itself.
R = (
    20,
    ("a", "b", "c", "d", "e"),
    (("b", "e", -3), ("c", "e", -1), ("d", "b", 4), ("e", "c", 0)),
    (("a", "b", 2, 5), ("c", "d", 1, 3)),
)
LINES_OF_R = [
    (("c", "e", "", -1), "given", ()),
    (("e", "c", "", 0), "given", ()),
    (("b", "e", "", -3), "given", ()),
    (("a", "e", "", -1), "early", (2,)),
    (("b", "a", "b", -5), "longest", ()),
    (("d", "b", "", 4), "given", ()),
    (("d", "a", "b", -1), "sum", (5, 4)),
    (("c", "a", "b", 0), "early", (6,)),
    (("d", "a", "", -1), "sure", (6,)),
    (("b", "a", "", -2), "sure", (4,)),
    (("d", "e", "", 1), "sum", (5, 2)),
    (("go", "a", "", 20), "given", ()),
    (("e", "go", "", 0), "given", ()),
    (("a", "b", "", 5), "given", ()),
    (("b", "a", "", -2), "given", ()),
    (("d", "c", "", -1), "given", ()),
    (("d", "c", "d", -3), "longest", ()),
]
# A loop of an event that is an end, and a loop that is waiting.
LINKS = (20, ("a", "b", "c"), (("c", "b", -3),), (("a", "b", 1, 2), ("b", "c", 2, 3)))
TWINS = (8, ("b", "h", "l"), (("h", "l", 0),), (("b", "h", 2, 3), ("b", "l", 1, 3)))
LINES_OF_TWINS = [
    (("h", "l", "", 0), "given", ()),
    (("l", "b", "l", -3), "longest", ()),
    (("h", "b", "l", -3), "sum", (0, 1)),
    (("b", "b", "l", -1), "early", (2,)),
]


class PaperCase(unittest.TestCase):
    def assert_paper(self, plan, value, expected):
        with self.subTest(plan=plan, value=value):
            self.assertIs(is_paper(plan, value), expected)

    def assert_line(self, line, expected, lines=None):
        """Whether a line may stand behind all lines of the plan R."""
        self.assert_paper(R, ((LINES_OF_R if lines is None else lines) + [line], [0, 1]), expected)


class Paper(PaperCase):
    def test_the_examples(self):
        self.assertIsNone(paper(A))
        self.assert_paper(D, paper(D), True)
        for ring, expected in (([1, 4], True), ([4, 1], True), ([1], False)):
            self.assert_paper(D, (LINES_OF_D, ring), expected)
        self.assert_paper(A, (LINES_OF_D, [1, 4]), False)
        self.assert_paper(G, PAPER_OF_G, True)

    def test_none_exactly_where_there_is_a_table(self):
        plans = [A, D, E, G, EMPTY, CHAIN, LIMIT, R, LINKS, TWINS]
        plans += [made_plan(number, events=5, bounds=4, tasks=3) for number in range(300)]
        kept = 0
        for plan in plans:
            with self.subTest(plan=plan):
                told = paper(plan)
                if told is None:
                    kept += 1
                    self.assertIsInstance(table(plan), list)
                else:
                    self.assertIs(is_paper(plan, told), True)
                    with self.assertRaises(NotKept) as caught:
                        table(plan)
                    self.assertIs(is_paper(plan, caught.exception.reason), True)
        self.assertGreater(kept, 50)
        self.assertGreater(len(plans) - kept, 50)

    def test_kinds_of_what_is_returned(self):
        for plan in (D, G, R, TWINS):
            lines, ring = paper(plan)
            self.assertIs(type(paper(plan)), tuple)
            self.assertIs(type(lines), list)
            self.assertIs(type(ring), list)
            for edge, rule, places in lines:
                self.assertEqual((type(edge), type(rule), type(places)), (tuple, str, tuple))

    def test_each_line_is_needed(self):
        for number in range(40):
            told = paper(limit_plan(number))
            if told is not None:
                lines, ring = told
                needed = set(ring)
                for line in lines:
                    needed |= set(line[2])
                self.assertEqual(needed, set(range(len(lines))))

    def test_other_names(self):
        names = {"a": "x", "b": "y", "c": "z"}

        def renamed(value):
            if isinstance(value, (tuple, list)):
                return type(value)(renamed(part) for part in value)
            return names.get(value, value) if isinstance(value, str) else value

        self.assert_paper(renamed(D), (renamed(LINES_OF_D), [1, 4]), True)
        self.assert_paper(renamed(D), renamed(paper(D)), True)
        self.assert_paper(D, renamed(paper(D)), False)
        self.assert_paper(renamed(D), paper(D), False)

    def test_other_plans(self):
        self.assert_paper(with_part(D, (3, 0, 3), 2), (LINES_OF_D, [1, 4]), False)
        self.assert_paper(with_part(D, (3, 0, 2), 2), (LINES_OF_D, [1, 4]), False)
        self.assert_paper(with_part(D, (2, 0, 2), 0), (LINES_OF_D, [1, 4]), False)
        # A later latest does not matter to this paper.
        self.assert_paper(with_part(D, (0,), 99), (LINES_OF_D, [1, 4]), True)
        self.assert_paper(EMPTY, (LINES_OF_D, [1, 4]), False)


class Lines(PaperCase):
    def test_lines_by_each_rule(self):
        self.assert_paper(R, (LINES_OF_R, [0, 1]), True)
        for line in LINES_OF_R:
            self.assert_line(line, True)

    def test_wrong_weights(self):
        for k, line in enumerate(LINES_OF_R):
            for off in (-3, -1, 1, 3):
                changed = with_part(line, (0, 3), line[0][3] + off)
                self.assert_line(changed, False)
                self.assert_paper(R, (with_part(LINES_OF_R, (k,), changed), [0, 1]), False)
        for k in range(len(LINES_OF_D)):
            changed = with_part(LINES_OF_D, (k, 0, 3), LINES_OF_D[k][0][3] - 1)
            self.assert_paper(D, (changed, [1, 4]), False)

    def test_wrong_ends_and_events(self):
        for line in LINES_OF_R:
            x, y, end, weight = line[0]
            for wrong in ((y, x, end, weight), (x, y, "b" if end == "" else "", weight), (x, y, "d", weight),
                          (x, y, "e", weight), (x, y, "a", weight), (x, "e" if y != "e" else "a", end, weight),
                          ("go" if x != "go" else "d", y, end, weight), (x, y, "go", weight)):
                if wrong not in starting_edges(R) + [good[0] for good in LINES_OF_R]:
                    self.assert_line((wrong,) + line[1:], False)

    def test_wrong_rules(self):
        for line in LINES_OF_R:
            for rule in ("given", "longest", "sum", "early", "sure", "", "Sum", "rest", None, 0, True, (), [], {}):
                if rule != line[1]:
                    self.assert_line((line[0], rule, line[2]), False)

    def test_wrong_places(self):
        for line in LINES_OF_R:
            wrongs = [(0,), (0, 1), (1, 0), (0, 0), (0, 1, 2), (-1,), (len(LINES_OF_R),), (99,), None, 0, "", {}]
            wrongs += [line[2] + (0,), line[2] + line[2][:1] if line[2] else (7,), list(line[2]), (None,), ("0",)]
            if line[2]:
                wrongs += [(), line[2][:-1] if len(line[2]) > 1 else (), line[2] + line[2]]
            for wrong in wrongs:
                self.assert_line((line[0], line[1], wrong), False)

    def test_the_order_of_the_two_edges_of_a_sum(self):
        self.assert_line((("d", "a", "b", -1), "sum", (4, 5)), False)
        self.assert_line((("d", "e", "", 1), "sum", (2, 5)), False)
        self.assert_paper(D, (with_part(LINES_OF_D, (4, 2), (3, 2)), [1, 4]), False)
        # Two plain edges that fit in both orders come to two loops, and to no line.
        self.assert_line((("a", "a", "", 3), "sum", (13, 14)), False)
        self.assert_line((("b", "b", "", 3), "sum", (14, 13)), False)

    def test_a_sum_begins_with_a_plain_edge(self):
        # From b to a waiting, then from a to e: "sum" takes plain edges first.
        self.assert_line((("b", "e", "b", -6), "sum", (4, 3)), False)
        self.assert_line((("b", "e", "", -6), "sum", (4, 3)), False)
        self.assert_line((("b", "e", "", -3), "sum", (9, 3)), True)

    def test_a_sum_needs_edges_that_meet(self):
        self.assert_line((("d", "e", "", 1), "sum", (5, 3)), False)
        self.assert_line((("c", "a", "", 19), "sum", (0, 11)), False)
        self.assert_line((("c", "go", "", -1), "sum", (0, 12)), True)
        self.assert_line((("e", "a", "", 20), "sum", (12, 11)), True)

    def test_early_needs_a_weight_below_0_and_an_end(self):
        lines = LINES_OF_R + [(("d", "a", "b", -1), "sum", (5, 4)), (("b", "go", "", -3), "sum", (2, 12))]
        self.assert_line((("a", "go", "", -1), "early", (18,)), True, lines)
        # The weight 1, and the weight 0.
        self.assert_line((("c", "e", "", 2), "early", (10,)), False)
        zero = with_part(R, (2, 0, 2), 0)
        rest = [(("b", "e", "", 0), "given", ())]
        self.assert_paper(zero, (LINES_OF_R[:2] + rest, [0, 1]), True)
        self.assert_paper(zero, (LINES_OF_R[:2] + rest + [(("a", "e", "", 2), "early", (2,))], [0, 1]), False)
        # Neither e nor a is the end of a task.
        self.assert_line((("c", "e", "", 0), "early", (0,)), False)
        self.assert_line((("a", "e", "", 1), "early", (3,)), False)

    def test_early_not_from_the_waiting_edge_of_the_same_task(self):
        self.assert_line((("a", "a", "b", -3), "early", (4,)), False)
        # From the plain edge back it comes, and is a loop that weighs 0.
        self.assert_line((("a", "a", "", 0), "early", (14,)), True)

    def test_sure_needs_a_waiting_edge(self):
        self.assert_line((("b", "e", "", -2), "sure", (2,)), False)
        self.assert_line((("b", "e", "", -3), "sure", (2,)), False)
        self.assert_line((("d", "c", "", -1), "sure", (16,)), True)
        self.assert_line((("d", "c", "", -3), "sure", (16,)), False)
        self.assert_line((("d", "c", "d", -1), "sure", (16,)), False)

    def test_given_and_longest_are_not_changed_for_each_other(self):
        self.assert_line((("b", "a", "b", -5), "given", ()), False)
        self.assert_line((("b", "a", "", -5), "longest", ()), False)
        self.assert_line((("b", "a", "b", -2), "longest", ()), False)
        self.assert_line((("b", "a", "b", -3), "longest", ()), False)
        self.assert_line((("a", "b", "", 20), "given", ()), False)
        self.assert_line((("go", "go", "", 0), "given", ()), False)
        for event in R[1]:
            self.assert_line((("go", event, "", 20), "given", ()), True)
            self.assert_line((("go", event, "", 21), "given", ()), False)
            self.assert_line(((event, "go", "", 0), "given", ()), True)
            self.assert_line(((event, "go", "", -1), "given", ()), False)

    def test_two_given_edges_of_one_pair(self):
        plan = R[:2] + (R[2] + (("go", "a", 5), ("go", "b", 25)),) + R[3:]
        for event, weights in (("a", (5, 20)), ("b", (25, 20))):
            for weight in (4, 5, 20, 25):
                line = (("go", event, "", weight), "given", ())
                self.assert_paper(plan, (LINES_OF_R[:2] + [line], [0, 1]), weight in weights)

    def test_a_line_that_rests_on_itself_or_a_later_one(self):
        own = len(LINES_OF_R)
        self.assert_line((("d", "a", "b", -1), "sum", (5, own)), False)
        self.assert_line((("d", "a", "b", -1), "sum", (own, 4)), False)
        self.assert_line((("b", "a", "", -2), "sure", (own,)), False)
        # The paper of D with the early line ahead of the line that it rests on.
        swapped = [(("a", "c", "", 0), "early", (1,)), LINES_OF_D[0]] + LINES_OF_D[2:]
        self.assert_paper(D, (swapped, [0, 4]), False)
        self.assert_paper(D, ([LINES_OF_D[0], (("a", "c", "", 0), "early", (0,))] + LINES_OF_D[2:], [1, 4]), True)

    def test_negative_places(self):
        own = len(LINES_OF_R)
        self.assert_line((("d", "a", "b", -1), "sum", (5, 4)), True)
        self.assert_line((("d", "a", "b", -1), "sum", (5 - own, 4)), False)
        self.assert_line((("d", "a", "b", -1), "sum", (5, 4 - own)), False)
        self.assert_line((("a", "e", "", -1), "early", (2 - own,)), False)
        self.assert_line((("b", "a", "", -2), "sure", (4 - own,)), False)
        for ring in ([1, -1], [-4, 4], [-4, -1]):
            self.assert_paper(D, (LINES_OF_D, ring), False)

    def test_true_is_no_place(self):
        lines = [LINES_OF_R[2], LINES_OF_R[4], LINES_OF_R[5], LINES_OF_R[0], LINES_OF_R[1]]
        for places, expected in (((1,), True), ((True,), False), ((1.0,), False)):
            self.assert_paper(R, (lines + [(("b", "a", "", -2), "sure", places)], [3, 4]), expected)
        for places, expected in (((0,), True), ((False,), False)):
            self.assert_paper(R, (lines + [(("a", "e", "", -1), "early", places)], [3, 4]), expected)
        for places, expected in (((2, 1), True), ((2, True), False)):
            self.assert_paper(R, (lines + [(("d", "a", "b", -1), "sum", places)], [3, 4]), expected)
        for ring, expected in (([0, 1], True), ([0, True], False), ([False, 1], False), ([0.0, 1], False)):
            self.assert_paper(R, (LINES_OF_R, ring), expected)

    def test_true_is_no_weight(self):
        plan = with_part(R, (2, 2, 2), 1)
        for weight, expected in ((1, True), (True, False), (1.0, False), ("1", False), (None, False)):
            line = (("d", "b", "", weight), "given", ())
            self.assert_paper(plan, (LINES_OF_R[:2] + [line], [0, 1]), expected)

    def test_edges_from_loops_do_not_come(self):
        three = [(("a", "b", "", 3), "given", ()), (("b", "go", "", 0), "given", ())]
        for line, expected in (
            ((("a", "a", "", -1), "early", (0,)), True),
            ((("a", "b", "", 2), "sum", (1, 2)), False),
            ((("b", "a", "", -3), "sum", (0, 1)), False),
            ((("a", "a", "", -2), "sum", (1, 1)), False),
            ((("a", "go", "", 3), "sum", (2, 3)), True),
        ):
            self.assert_paper(G, (PAPER_OF_G[0] + three + [line], [1]), expected)
        # From the loop of b, which is the end of another task, nothing comes by "early".
        lines = [(("c", "b", "", -3), "given", ()), (("b", "b", "", -1), "early", (0,))]
        self.assert_paper(LINKS, (lines, [1]), True)
        self.assert_paper(LINKS, (lines + [(("a", "b", "", 0), "early", (1,))], [1]), False)
        # Nor from a waiting loop by "sure".
        self.assert_paper(TWINS, (LINES_OF_TWINS, [3]), True)
        self.assert_paper(TWINS, (LINES_OF_TWINS + [(("b", "b", "", -1), "sure", (3,))], [3]), False)

    def test_lists_and_tuples_for_each_other(self):
        for plan, value in ((D, (LINES_OF_D, [1, 4])), (G, PAPER_OF_G), (TWINS, (LINES_OF_TWINS, [3]))):
            for path in paths(value):
                part = part_at(value, path)
                if isinstance(part, list):
                    self.assert_paper(plan, with_part(value, path, tuple(part)), False)
                if isinstance(part, tuple):
                    self.assert_paper(plan, with_part(value, path, list(part)), False)

    def test_wrong_lengths(self):
        value = (LINES_OF_D, [1, 4])
        self.assert_paper(D, value + ([],), False)
        self.assert_paper(D, value[:1], False)
        self.assert_paper(D, (LINES_OF_D, [1, 4], [1, 4]), False)
        for k, line in enumerate(LINES_OF_D):
            for wrong in (line[:2], line + (0,), line[1:], (), line[0], (line[0][:3],) + line[1:],
                          (line[0] + (0,),) + line[1:], ((),) + line[1:]):
                self.assert_paper(D, (with_part(LINES_OF_D, (k,), wrong), [1, 4]), False)

    def test_other_kinds_at_each_place(self):
        for plan, value in ((D, (LINES_OF_D, [1, 4])), (TWINS, (LINES_OF_TWINS, [3]))):
            for path in paths(value):
                for wrong in (None, True, 2.5, "q", "", b"", {}, set(), 10 ** 30, -7, [[]], ((),)):
                    if wrong == part_at(value, path):
                        continue
                    self.assert_paper(plan, with_part(value, path, wrong), False)

    def test_a_wrong_line_that_the_ring_does_not_need(self):
        for line in (None, (("a", "b", "", 4), "given", ()), (("a", "z", "", 4), "given", ()), ()):
            self.assert_paper(D, (LINES_OF_D + [line], [1, 4]), False)
        self.assert_paper(D, (LINES_OF_D + [(("a", "b", "", 3), "given", ())], [1, 4]), True)
        self.assert_paper(D, (LINES_OF_D + LINES_OF_D[:1], [1, 4]), True)


class Rings(PaperCase):
    def test_rings_that_do_not_close(self):
        for ring in ([0], [4], [1, 0], [0, 4], [3, 2], [4, 2], [1, 4, 1], [1, 4, 0], [4, 1, 4], [1, 1], [4, 4],
                     [0, 4, 1], [1, 2, 4]):
            self.assert_paper(D, (LINES_OF_D, ring), False)

    def test_rings_of_more_edges(self):
        for ring in ([1, 2, 3], [2, 3, 1], [3, 1, 2]):
            self.assert_paper(D, (LINES_OF_D, ring), True)
        for ring in ([3, 2, 1], [2, 1, 3], [1, 3, 2]):
            self.assert_paper(D, (LINES_OF_D, ring), False)

    def test_sums_of_0_and_above(self):
        # From b to c and back: -1 and 2. From a to c, to b and back, with the task of two moments: 0.
        self.assert_paper(D, (LINES_OF_D, [0, 2]), False)
        two = with_part(D, (3, 0, 3), 2)
        lines = with_part(LINES_OF_D[:4], (3, 0, 3), -2)
        self.assert_paper(two, (lines, [1, 2, 3]), False)
        self.assert_paper(with_part(D, (3, 0, 3), 3), (LINES_OF_D[:4], [1, 2, 3]), True)
        # A loop that weighs 0, and one that weighs -1.
        one = with_part(G, (2, 0, 2), -1)
        self.assert_paper(one, ([(("b", "a", "", -1), "given", ()), (("a", "a", "", 0), "early", (0,))], [1]), False)

    def test_empty(self):
        self.assert_paper(D, (LINES_OF_D, []), False)
        self.assert_paper(D, ([], []), False)
        self.assert_paper(EMPTY, ([], []), False)
        self.assert_paper(D, ([], [0]), False)

    def test_places_that_no_line_has(self):
        for ring in ([1, 5], [5], [1, 99], [10 ** 20]):
            self.assert_paper(D, (LINES_OF_D, ring), False)

    def test_going_round_twice(self):
        for ring in ([1, 4, 1, 4], [4, 1, 4, 1, 4, 1], [1, 2, 3, 1, 4], [1, 2, 3, 1, 2, 3]):
            self.assert_paper(D, (LINES_OF_D, ring), True)
        # Through b and c round, once more than is needed: -1 and 2 and twice -1 make 0.
        self.assert_paper(D, (LINES_OF_D, [1, 2, 0, 2, 3]), False)

    def test_loops_stand_alone_and_once(self):
        self.assert_paper(G, PAPER_OF_G, True)
        lines = PAPER_OF_G[0] + [(("a", "b", "", 3), "given", ()), (("b", "a", "b", -3), "longest", ()),
                                 (("a", "go", "", 0), "given", ()), (("go", "a", "", 10), "given", ())]
        self.assert_paper(G, (lines, [1]), True)
        for ring in ([1, 1], [1, 2, 3], [2, 3, 1], [1, 2, 0], [2, 0, 1, 1], [0], [2], [2, 3], [4, 5], [4, 5, 1]):
            self.assert_paper(G, (lines, ring), False)
        self.assert_paper(TWINS, (LINES_OF_TWINS, [3]), True)
        self.assert_paper(TWINS, (LINES_OF_TWINS, [3, 3]), False)

    def test_rings_of_several_waiting_edges(self):
        plan = (12, ("b", "e", "k"), (("k", "e", 4),), (("b", "e", 2, 3), ("k", "b", 2, 2)))
        lines = [(("k", "e", "", 4), "given", ()), (("e", "b", "e", -3), "longest", ()),
                 (("b", "k", "b", -2), "longest", ())]
        for ring in ([0, 1, 2], [1, 2, 0], [2, 0, 1]):
            self.assert_paper(plan, (lines, ring), True)
        self.assertIsNotNone(paper(plan))
        self.assertIsNone(paper(with_part(plan, (2, 0, 2), 5)))

    def test_other_values(self):
        for plan in (A, D, EMPTY, LIMIT):
            for value in OTHERS:
                self.assert_paper(plan, value, False)
                self.assert_paper(plan, (value, [0]), False)
                self.assert_paper(plan, (LINES_OF_D, value), False)
                self.assert_paper(plan, ([value], [0]), False)
                self.assert_paper(plan, (LINES_OF_D, [value, 4]), plan == D and value == 1 and type(value) is int)


if __name__ == "__main__":
    unittest.main()
