"""How far a plan can be changed so that it can still be kept."""

from startnow.edges import is_keepable, tasks_by_end
from startnow.errors import InvalidEvent, SameEvent
from startnow.plans import is_place, require_plan

# No event has this name.
NOTICE = "notice of an end"


def first_kept(values, plan_with):
    """Return the first of some values with which a plan can be kept, None if there is none.

    With each value the plan is at least as easy to keep as with the one before.
    """
    low = 0
    high = len(values)
    while low < high:
        middle = (low + high) // 2
        if is_keepable(plan_with(values[middle])):
            high = middle
        else:
            low = middle + 1
    return values[low] if low < len(values) else None


def task_to(plan, end):
    """Return the task of a plan with an end; raise InvalidEvent for a value that is no end."""
    require_plan(plan)
    tasks = tasks_by_end(plan)
    # Only strings are looked up: other values may have no hash.
    if not isinstance(end, str) or end not in tasks:
        raise InvalidEvent()
    return tasks[end]


def with_task(plan, task, other):
    """Return a plan with another task in the place of one of its tasks."""
    latest, events, bounds, tasks = plan
    return (latest, events, bounds, [other if one == task else one for one in tasks])


def with_notice(plan, task, notice):
    """Return a plan in which the end of a task is known so many moments before it comes.

    What is seen is the notice, as the end of a shorter task; the end has to follow it like an event of ours.
    """
    begin, end, least, greatest = task
    shorter = (begin, NOTICE, least - notice, greatest - notice)
    latest, events, bounds, tasks = with_task(plan, task, shorter)
    follows = [(NOTICE, end, notice), (end, NOTICE, -notice)]
    return (latest, [*events, NOTICE], [*bounds, *follows], tasks)


def least_most(plan, x, y):
    """Return the least most of a further bound from x to y with which a plan can be kept, or None."""
    require_plan(plan)
    if not is_place(plan[1], x) or not is_place(plan[1], y):
        raise InvalidEvent()
    if x == y:
        raise SameEvent()
    latest, events, bounds, tasks = plan
    mosts = list(range(-latest, latest + 1))
    return first_kept(mosts, lambda most: (latest, events, [*bounds, (x, y, most)], tasks))


def most_time(plan, end):
    """Return the greatest greatest time of the task with an end with which a plan can be kept, or None."""
    task = task_to(plan, end)
    begin, _, least, _ = task
    times = list(range(least, plan[0] + 1))[::-1]
    return first_kept(times, lambda time: with_task(plan, task, (begin, end, least, time)))


def least_time(plan, end):
    """Return the least least time of the task with an end with which a plan can be kept, or None."""
    task = task_to(plan, end)
    begin, _, _, greatest = task
    times = list(range(1, greatest + 1))
    return first_kept(times, lambda time: with_task(plan, task, (begin, end, time, greatest)))


def least_latest(plan):
    """Return the least latest moment with which a plan can be kept, or None."""
    require_plan(plan)
    latest, events, bounds, tasks = plan
    return first_kept(list(range(latest + 1)), lambda moment: (moment, events, bounds, tasks))


def least_notice(plan, end):
    """Return the least notice of the task with an end with which a plan can be kept, or None."""
    task = task_to(plan, end)
    return first_kept(list(range(task[2])), lambda notice: with_notice(plan, task, notice))


def barring(plan):
    """Return bounds of a plan none of which could be missing for it not to be kept, None if it can be kept."""
    require_plan(plan)
    if is_keepable(plan):
        return None
    latest, events, bounds, tasks = plan
    left = list(bounds)
    for bound in bounds[::-1]:
        fewer = [other for other in left if other != bound]
        if not is_keepable((latest, events, fewer, tasks)):
            left = fewer
    return left
