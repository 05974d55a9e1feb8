"""[3]: which error comes first, by position and by name, in histories, limits and careful."""

import unittest

from startnow.careful import alike, gap, many_runs, parting_run
from startnow.errors import (
    InvalidEvent, InvalidHistory, InvalidPlan, InvalidRun, InvalidTimes, NotKept, NotSafe, OtherTasks, PlanError,
    SameEvent,
)
from startnow.histories import (
    advice, blame, can_keep, is_history, played, safe, safe_to_wait, startable, wait_until,
)
from startnow.limits import barring, least_latest, least_most, least_notice, least_time, most_time
from tests.samples import A, D, E, NONE, OTHERS, S, with_part

# No plan, and without its wrong task it could not be kept.
WRONG = with_part(D, (3, 0, 2), 0)
HISTORY = (0, NONE)
LOST = (5, (0, 2, None))

# Calls by name of which all but the last error would come too if the earlier ones were put right.
CASES = [
    (can_keep, {"plan": WRONG}, InvalidPlan),
    (is_history, {"plan": WRONG, "value": HISTORY}, InvalidPlan),
    (is_history, {"plan": WRONG, "value": None}, InvalidPlan),
    (played, {"plan": WRONG, "times": (0,)}, InvalidPlan),
    (played, {"plan": WRONG, "times": (2,)}, InvalidPlan),
    (played, {"plan": D, "times": (0,)}, InvalidTimes),
    (played, {"plan": A, "times": (4,)}, InvalidTimes),
    (played, {"plan": D, "times": (2,)}, NotKept),
    (blame, {"plan": WRONG, "run": (0, 9, 9)}, InvalidPlan),
    (blame, {"plan": D, "run": (0, 9, 9)}, InvalidRun),
    (blame, {"plan": A, "run": (0, 9, 9)}, InvalidRun),
    (least_most, {"plan": WRONG, "x": "z", "y": "z"}, InvalidPlan),
    (least_most, {"plan": WRONG, "x": "a", "y": "a"}, InvalidPlan),
    (least_most, {"plan": D, "x": "z", "y": "z"}, InvalidEvent),
    (least_most, {"plan": A, "x": "z", "y": "a"}, InvalidEvent),
    (least_most, {"plan": A, "x": "a", "y": "z"}, InvalidEvent),
    (least_most, {"plan": D, "x": "a", "y": "a"}, SameEvent),
    (least_most, {"plan": A, "x": "go", "y": "go"}, SameEvent),
    (least_latest, {"plan": WRONG}, InvalidPlan),
    (barring, {"plan": WRONG}, InvalidPlan),
    (many_runs, {"plan": WRONG}, InvalidPlan),
    (gap, {"plan": WRONG, "x": "z", "y": "a"}, InvalidPlan),
    (gap, {"plan": WRONG, "x": "a", "y": "a"}, InvalidPlan),
    (gap, {"plan": D, "x": "z", "y": "a"}, InvalidEvent),
    (gap, {"plan": D, "x": "a", "y": "z"}, InvalidEvent),
    (gap, {"plan": S, "x": "z", "y": "z"}, InvalidEvent),
]
for call in (safe, safe_to_wait, startable, advice, wait_until):
    CASES.append((call, {"plan": WRONG, "history": None}, InvalidPlan))
    CASES.append((call, {"plan": WRONG, "history": HISTORY}, InvalidPlan))
    CASES.append((call, {"plan": D, "history": None}, InvalidHistory))
    CASES.append((call, {"plan": A, "history": (3, (0, None, None))}, InvalidHistory))
    # It is no history, and if it were one it would not be safe.
    CASES.append((call, {"plan": A, "history": (9, (0, 5, None))}, InvalidHistory))
for call in (advice, wait_until):
    CASES.append((call, {"plan": D, "history": HISTORY}, NotSafe))
    CASES.append((call, {"plan": A, "history": LOST}, NotSafe))
    CASES.append((call, {"plan": A, "history": (11, NONE)}, NotSafe))
for call in (most_time, least_time, least_notice):
    CASES.append((call, {"plan": WRONG, "end": "b"}, InvalidPlan))
    CASES.append((call, {"plan": WRONG, "end": "a"}, InvalidPlan))
    CASES.append((call, {"plan": D, "end": "a"}, InvalidEvent))
    CASES.append((call, {"plan": A, "end": "go"}, InvalidEvent))
for call in (alike, parting_run):
    CASES.append((call, {"one": WRONG, "other": None}, InvalidPlan))
    CASES.append((call, {"one": WRONG, "other": S}, InvalidPlan))
    CASES.append((call, {"one": S, "other": WRONG}, InvalidPlan))
    CASES.append((call, {"one": E, "other": WRONG}, InvalidPlan))
    CASES.append((call, {"one": S, "other": E}, OtherTasks))
    CASES.append((call, {"one": E, "other": D}, OtherTasks))


class Order(unittest.TestCase):
    def test_by_position_and_by_name(self):
        for call, arguments, error in CASES:
            with self.subTest(call=call, arguments=arguments):
                with self.assertRaises(error):
                    call(**arguments)
                with self.assertRaises(error):
                    call(**dict(reversed(arguments.items())))
                with self.assertRaises(error):
                    call(*arguments.values())

    def test_any_value_in_the_place_of_any_argument(self):
        """Nothing but an error of the package is raised, whatever is passed."""
        for call, arguments, _ in CASES:
            for name in arguments:
                for value in OTHERS:
                    changed = {**arguments, name: value}
                    with self.subTest(call=call, changed=changed):
                        try:
                            call(**changed)
                        except PlanError:
                            pass

    def test_reason(self):
        with self.assertRaises(NotKept) as caught:
            played(D, (2,))
        self.assertIsInstance(caught.exception.reason, tuple)
        self.assertIsInstance(caught.exception, ValueError)


if __name__ == "__main__":
    unittest.main()
