"""Over the whole program: live runs keep their plans, and what one file returns the others take."""

import unittest
from itertools import product
from random import Random

from startnow.careful import alike, gap, many_runs, parting_run
from startnow.designs import Design
from startnow.histories import (
    advice, blame, can_keep, is_history, played, safe, safe_to_wait, startable, wait_until,
)
from startnow.limits import barring, least_latest, least_most, least_notice, least_time, most_time
from startnow.lives import CappedLive, Live, StrictCappedLive, StrictLive
from startnow.plans import broken, is_plan, is_run, ours
from startnow.tables import is_paper, is_table, paper, table
from startnow.texts import parse_history, parse_plan, show_history, show_plan
from tests.plays import CLASSES
from tests.samples import A, CHAIN, D, E, EMPTY, G, LIMIT, S, T, limit_plan, made_plan, notice_plan, with_part


def all_times(plan):
    return product(*[range(least, greatest + 1) for _, _, least, greatest in plan[3]])


def ends_at(live, times, now):
    """The ends that are seen at a moment if the tasks take some times."""
    return [
        end for (begin, end, _, _), time in zip(live.plan[3], times)
        if end in live.running and live[begin] + time == now
    ]


def followed(live, times):
    """The moments of a run that follows advice, and asks again when something is seen or it may not wait longer."""
    while not live.done:
        for event in live.advice():
            assert live.start(event) == "safe"
        if live.done:
            break
        last = live.wait_until()
        seen = ends_at(live, times, live.now + 1)
        # Behind the starts it is safe to wait, so at the last moment just some task has to end at the next one.
        assert live.now < last or seen
        assert live.pass_on(*seen) == "safe"
        while not seen and live.now < last:
            seen = ends_at(live, times, live.now + 1)
            assert live.pass_on(*seen) == "safe"
    return live.history[1]


def renamed(value, names):
    """A value with other names in the place of its events; the names of rules are no events."""
    if isinstance(value, str):
        return names.get(value, value)
    if isinstance(value, (tuple, list)):
        return type(value)(renamed(part, names) for part in value)
    return value


class Following(unittest.TestCase):
    def assert_followed(self, plan, times):
        run = played(plan, times)
        for kind in CLASSES:
            live = kind(plan)
            moments = followed(live, times)
            with self.subTest(kind=kind, plan=plan, times=times):
                self.assertTrue(is_run(plan, moments))
                self.assertEqual(broken(plan, moments), [])
                self.assertIn(moments, Design(plan))
                self.assertIsNone(blame(plan, moments))
                self.assertIsNone(blame(plan, run))
                self.assertEqual(live.tell()[2], "safe")
        self.assertIn(run, Design(plan))

    def test_all_times_of_small_plans(self):
        plans = [A, S, T, EMPTY, CHAIN] + [made_plan(k, tasks=3, slack=1) for k in range(80)]
        for plan in plans + [notice_plan(k) for k in range(20)]:
            if can_keep(plan):
                for times in list(all_times(plan))[:12]:
                    self.assert_followed(plan, times)

    def test_some_times_at_the_limits(self):
        random = Random(5)
        for plan in [LIMIT] + [limit_plan(k) for k in range(4)]:
            if can_keep(plan):
                self.assert_followed(plan, tuple(random.randint(least, most) for _, _, least, most in plan[3]))

    def test_advice_at_each_moment_plays_the_run(self):
        for plan in [A, S, T, CHAIN] + [made_plan(k, tasks=3, slack=1) for k in range(60)]:
            if can_keep(plan):
                for times in list(all_times(plan))[:10]:
                    live = StrictCappedLive(plan)
                    while not live.done:
                        for event in live.advice():
                            live.start(event)
                        if not live.done:
                            live.pass_on(*ends_at(live, times, live.now + 1))
                    self.assertEqual(live.history[1], played(plan, times))


class PassedBack(unittest.TestCase):
    def test_plans_of_designs(self):
        for number in range(25):
            plan = made_plan(number, slack=1)
            places = ("go",) + plan[1]
            pairs = [(x, y) for x in places for y in places if x != y]
            # More bounds than a plan of a caller may have.
            design = Design(plan)
            for place, (x, y) in enumerate(pairs):
                design = design + (x, y, 9 - (number + place) % 4)
            joined = (design & Design(with_part(plan, (0,), 7))).plan
            self.assertTrue(is_plan(joined))
            self.assertEqual(len(joined[2]), len(pairs))
            self.assertEqual(parse_plan(show_plan(joined)), joined)
            self.assertEqual(ours(joined), ours(plan))
            self.assert_all_functions(joined)

    def assert_all_functions(self, plan):
        if can_keep(plan):
            self.assertTrue(is_table(plan, table(plan)))
            self.assertTrue(is_table(plan, Design(plan).table()[::-1]))
            run = played(plan, tuple(task[3] for task in plan[3]))
            self.assertEqual([broken(plan, run), blame(plan, run), Design(plan).blame(run)], [[], None, None])
            self.assertIn(run, Design(plan))
            self.assertLessEqual(max(run, default=0), plan[0])
            self.assertGreaterEqual(plan[0], least_latest(plan))
            self.assert_histories(plan, run)
        else:
            self.assertTrue(is_paper(plan, paper(plan)))
            self.assertTrue(is_paper(plan, Design(plan).paper()))
            left = with_part(plan, (2,), tuple(barring(plan)))
            self.assertTrue(is_plan(left))
            self.assertIs(can_keep(left), False)
            self.assertEqual(barring(left), barring(plan))
            for bound in left[2]:
                self.assertTrue(Design(left) - bound[:2])

    def assert_histories(self, plan, run):
        """The histories on the way of a run, behind the starts of their moments, are safe, written and read."""
        for now in range(max(run, default=0) + 1):
            history = (now, tuple(moment if moment <= now else None for moment in run))
            self.assertTrue(is_history(plan, history))
            self.assertEqual(parse_history(plan, show_history(plan, history)), history)
            self.assertTrue(safe(plan, history) and safe_to_wait(plan, history))
            self.assertGreaterEqual(wait_until(plan, history), now)
            self.assertEqual(StrictLive.read(plan, show_history(plan, history)).history, history)
            self.assertEqual(Design(plan)(history), advice(plan, history))
            self.assertLessEqual(set(advice(plan, history)), set(startable(plan, history)))

    def test_plans_of_all_sizes(self):
        for plan in (A, D, E, G, S, T, EMPTY, CHAIN, LIMIT):
            self.assert_all_functions(plan)
        for number in range(4):
            self.assert_all_functions(limit_plan(number))

    def test_tables_and_papers_by_other_names(self):
        for plan in [A, D, E, G, CHAIN, LIMIT] + [made_plan(k, slack=1) for k in range(40)]:
            # The order of the names and "go" stays, so that the tuples ascend.
            names = {event: event + "a" for event in plan[1]}
            other = renamed(plan, names)
            self.assertTrue(is_plan(other))
            if can_keep(plan):
                self.assertEqual(table(other), sorted(renamed(table(plan), names)))
                self.assertTrue(is_table(other, renamed(table(plan), names)))
                self.assertFalse(plan[1] and is_table(plan, table(other)))
            else:
                self.assertTrue(is_paper(other, renamed(paper(plan), names)))
                self.assertFalse(is_paper(plan, paper(other)))

    def test_papers_with_one_weight_less(self):
        papers = {plan: paper(plan) for plan in [D, E, G] + [made_plan(k, slack=0) for k in range(60)]}
        self.assertGreater(len([1 for told in papers.values() if told]), 10)
        for plan, told in papers.items():
            if told:
                lines, ring = told
                for place, (edge, rule, places) in enumerate(lines):
                    changed = [*lines[:place], ((*edge[:3], edge[3] - 1), rule, places), *lines[place + 1:]]
                    # Only of given edges there may be one with this weight, too.
                    if rule != "given":
                        self.assertFalse(is_paper(plan, (changed, ring)))

    def test_numbers_that_were_returned_are_those_of_plans(self):
        for plan in (A, S, T, CHAIN, LIMIT, made_plan(3), made_plan(8)):
            for x, y in (("go", plan[1][0]), (plan[1][0], plan[1][-1])):
                if x != y and can_keep(plan):
                    design = Design(plan)
                    least = design.least_most(x, y)
                    self.assertEqual(least, least_most(plan, x, y))
                    self.assertTrue(design + (x, y, least))
                    self.assertTrue(least == -plan[0] or not design + (x, y, least - 1))
                    # A bound that says what the table says anyway changes nothing.
                    self.assertEqual(design + (x, y, design[x, y]), design)
            for begin, end, least, greatest in plan[3]:
                for call in (most_time, least_time, least_notice):
                    self.assertIs(type(call(plan, end)), int)
                longer = tuple((*t[:3], most_time(plan, end)) if t[1] == end else t for t in plan[3])
                self.assertIs(can_keep(with_part(plan, (3,), longer)), True)

    def test_designs_and_careful_runs(self):
        for number in range(30):
            plan = made_plan(number, events=3, bounds=3, tasks=2, latest=4, time=2, slack=1)
            design = Design(plan)
            for x, y in (("go", plan[1][0]), (plan[1][-1], "go")):
                further = design + (x, y, 2)
                parting = parting_run(plan, further.plan)
                self.assertIs(alike(plan, further.plan), parting is None)
                self.assertLessEqual(many_runs(further.plan), many_runs(plan))
                if design == further:
                    self.assertIsNone(parting)
                if parting is not None and further:
                    self.assertIn(parting, design)
                    self.assertIsNotNone(further.blame(parting))
                    self.assertIsNone(design.blame(parting))
                if further:
                    self.assertLessEqual(further.gap(x, y)[1], min(2, further[x, y]))
                    self.assertEqual(further.gap(x, y), gap(further.plan, x, y))


class ManyCalls(unittest.TestCase):
    def test_sixty_calls_and_all_taken_back(self):
        for kind in CLASSES:
            live = kind(with_part(LIMIT, (0,), 40)) if kind in (Live, StrictLive) else kind(LIMIT, most=140)
            told = [live.tell()]
            times = (5, 4, 6)
            while len(told) < 60:
                events = live.advice() if live.left else []
                for event in events:
                    live.start(event)
                    told.append(live.tell())
                live.pass_on(*ends_at(live, times, live.now + 1))
                told.append(live.tell())
            self.assertTrue(live.done)
            self.assertEqual(live.tell()[2], "safe")
            self.assertEqual(broken(LIMIT, live.history[1]), [])
            for expected in told[:-1][::-1]:
                self.assertIn(live.undo(), ("start", "pass_on"))
                self.assertEqual(live.tell(), expected)

    def test_to_and_fro(self):
        live = CappedLive(A)
        for _ in range(20):
            self.assertEqual(
                [live.start("a"), live.pass_on("b"), live.undo(), live.undo()], ["safe", "safe", "pass_on", "start"],
            )
        self.assertEqual(live.tell()[1:], ["at 0; none", "safe", "most 40"])


if __name__ == "__main__":
    unittest.main()
