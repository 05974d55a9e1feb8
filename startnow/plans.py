"""Plans, their runs, and the bounds that a run breaks."""

from startnow.errors import InvalidPlan, InvalidRun

GO = "go"


def is_integer(value):
    """Return whether a value is an int, but not True or False."""
    return isinstance(value, int) and not isinstance(value, bool)


def is_moment(value):
    """Return whether a value is an integer from 0 on."""
    return is_integer(value) and value >= 0


def is_place(events, value):
    """Return whether a value is one of the events or "go"."""
    # Only strings are looked up: other values may have no hash.
    return isinstance(value, str) and (value == GO or value in events)


def ascends(rows):
    """Return whether each row is less than the next one."""
    return all([rows[k] < rows[k + 1] for k in range(len(rows) - 1)])


def is_name(value):
    """Return whether a value is one to eight letters from a to z, but not "go"."""
    if not isinstance(value, str) or value == GO:
        return False
    return 1 <= len(value) <= 8 and all(["a" <= letter <= "z" for letter in value])


def are_events(value):
    """Return whether a value is an ascending tuple of unlike names."""
    return isinstance(value, tuple) and all([is_name(name) for name in value]) and ascends(value)


def is_pair(events, value):
    """Return whether a value is a tuple of two unlike ones of the events and "go"."""
    if not isinstance(value, tuple) or len(value) != 2:
        return False
    x, y = value
    return is_place(events, x) and is_place(events, y) and x != y


def is_bound(events, value):
    """Return whether a value can be a bound between the events and "go"."""
    if not isinstance(value, tuple) or len(value) != 3:
        return False
    return is_pair(events, value[:2]) and is_integer(value[2])


def are_bounds(events, value):
    """Return whether a value can be all bounds of a plan with these events."""
    if not isinstance(value, tuple) or not all([is_bound(events, bound) for bound in value]):
        return False
    # Pairs that ascend strictly make the bounds ascend, and no pair come twice.
    return ascends([bound[:2] for bound in value])


def is_task(events, value):
    """Return whether a value can be a task between two of the events."""
    if not isinstance(value, tuple) or len(value) != 4:
        return False
    begin, end, least, greatest = value
    if not isinstance(begin, str) or not isinstance(end, str):
        return False
    if not is_integer(least) or not is_integer(greatest):
        return False
    return begin in events and end in events and 1 <= least <= greatest


def is_rooted(begins):
    """Return whether going back from each end, to its begin and so on, comes to no end."""
    walks = {}
    for end in begins:
        at = end
        while at in begins and at not in walks:
            walks[at] = end
            at = begins[at]
        # An event that this same walk has passed before is met only on a way round.
        if at in begins and walks[at] == end:
            return False
    return True


def are_tasks(events, value):
    """Return whether a value can be all tasks of a plan with these events."""
    if not isinstance(value, tuple) or not all([is_task(events, task) for task in value]):
        return False
    begins = {task[1]: task[0] for task in value}
    return ascends(value) and len(begins) == len(value) and is_rooted(begins)


def is_plan(value):
    """Return whether any value is a plan."""
    if not isinstance(value, tuple) or len(value) != 4:
        return False
    latest, events, bounds, tasks = value
    if not is_moment(latest) or not are_events(events):
        return False
    # Plans may have any size, and a dict is searched as fast when it is large.
    known = {event: True for event in events}
    return are_bounds(known, bounds) and are_tasks(known, tasks)


def require_plan(plan):
    """Raise InvalidPlan for a value that is no plan."""
    if not is_plan(plan):
        raise InvalidPlan()


def ours(plan):
    """Return the ascending list of the events that are no ends."""
    require_plan(plan)
    ends = {task[1]: True for task in plan[3]}
    return [event for event in plan[1] if event not in ends]


def same_tasks(one, other):
    """Return whether two plans have the same events and the same tasks."""
    return one[1] == other[1] and one[3] == other[3]


def moments_by_place(plan, run):
    """Return a dict from "go" and each event to its moment in a run."""
    moments = {GO: 0}
    for event, moment in zip(plan[1], run):
        moments[event] = moment
    return moments


def is_run(plan, value):
    """Return whether any value is a run of a plan."""
    require_plan(plan)
    if not isinstance(value, tuple) or len(value) != len(plan[1]):
        return False
    if not all([is_moment(moment) for moment in value]):
        return False
    moments = moments_by_place(plan, value)
    return all([least <= moments[end] - moments[begin] <= greatest for begin, end, least, greatest in plan[3]])


def broken(plan, run):
    """Return the bounds that a run breaks, and behind them the events behind latest."""
    if not is_run(plan, run):
        raise InvalidRun()
    latest, events, bounds, _ = plan
    moments = moments_by_place(plan, run)
    failed = [(x, y, most) for x, y, most in bounds if moments[y] - moments[x] > most]
    late = [(GO, event, latest) for event in events if moments[event] > latest]
    return failed + late
