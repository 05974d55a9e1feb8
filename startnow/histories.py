"""Histories of plans: whether they are safe, what to start next, and which step was wrong."""

from startnow.edges import is_keepable
from startnow.errors import InvalidHistory, InvalidRun, InvalidTimes, NotKept, NotSafe
from startnow.plans import GO, is_integer, is_moment, is_run, moments_by_place, ours, require_plan
from startnow.tables import paper

WAIT = "wait"


def can_keep(plan):
    """Return whether some strategy keeps a plan."""
    require_plan(plan)
    return is_keepable(plan)


def fits_task(moments, now, task):
    """Return whether the begin and the end of a task may have these moments, or none, in a history."""
    begin, end, least, greatest = task
    if moments[begin] is None:
        return moments[end] is None
    if moments[end] is None:
        return now - moments[begin] < greatest
    return least <= moments[end] - moments[begin] <= greatest


def is_history(plan, value):
    """Return whether any value is a history of a plan."""
    require_plan(plan)
    if not isinstance(value, tuple) or len(value) != 2:
        return False
    now, moments = value
    if not is_moment(now) or not isinstance(moments, tuple) or len(moments) != len(plan[1]):
        return False
    if not all([moment is None or (is_moment(moment) and moment <= now) for moment in moments]):
        return False
    known = moments_by_place(plan, moments)
    return all([fits_task(known, now, task) for task in plan[3]])


def require_history(plan, history):
    """Raise InvalidHistory for a value that is no history of a plan."""
    if not is_history(plan, history):
        raise InvalidHistory()


def beginning(plan):
    """Return the history at the moment 0, of which nothing has happened."""
    return (0, tuple([None for _ in plan[1]]))


def with_now(plan, history, events):
    """Return the history in which some further events happen now."""
    now, moments = history
    return (now, tuple([now if event in events else moment for event, moment in zip(plan[1], moments)]))


def unstarted(plan, history):
    """Return the ascending list of the events of ours that did not happen."""
    moments = moments_by_place(plan, history[1])
    return [event for event in ours(plan) if moments[event] is None]


def tasks_ahead(plan, history):
    """Return the tasks whose ends are still to come, with the least times that are left to them.

    A running task was not seen to end up to now, so it ends at the next moment or later.
    """
    now = history[0]
    moments = moments_by_place(plan, history[1])
    ahead = []
    for begin, end, least, greatest in plan[3]:
        if moments[begin] is None:
            ahead.append((begin, end, least, greatest))
        elif moments[end] is None:
            ahead.append((begin, end, max(least, now + 1 - moments[begin]), greatest))
    return ahead


def plan_ahead(plan, history, soonest):
    """Return a plan that can be kept just if we can go on from a history, with starts from soonest on.

    Bounds tie what happened to its moments, also ends: their tasks are left out, as nobody waits for them.
    Behind latest it cannot be kept if anything is still to come, as that comes later than latest too.
    """
    latest, events, bounds, _ = plan
    happened = [(event, moment) for event, moment in zip(events, history[1]) if moment is not None]
    not_later = [(GO, event, moment) for event, moment in happened]
    not_sooner = [(event, GO, -moment) for event, moment in happened]
    to_come = [(event, GO, -soonest) for event in unstarted(plan, history)]
    return (latest, events, [*bounds, *not_later, *not_sooner, *to_come], tasks_ahead(plan, history))


def is_safe(plan, history):
    """Return whether a history is safe."""
    return is_keepable(plan_ahead(plan, history, history[0]))


def is_safe_to_wait(plan, history):
    """Return whether a history is safe without any further start now."""
    return is_keepable(plan_ahead(plan, history, history[0] + 1))


def safe(plan, history):
    """Return whether a history of a plan is safe."""
    require_history(plan, history)
    return is_safe(plan, history)


def safe_to_wait(plan, history):
    """Return whether a history of a plan is safe without any further start at its moment."""
    require_history(plan, history)
    return is_safe_to_wait(plan, history)


def startable(plan, history):
    """Return the ascending list of the events that can be started now so that the history stays safe."""
    require_history(plan, history)
    return [event for event in unstarted(plan, history) if is_safe(plan, with_now(plan, history, [event]))]


def require_safe(plan, history):
    """Raise an error for a value that is no history of a plan, or not a safe one."""
    if not safe(plan, history):
        raise NotSafe()


def starts_by_rule(plan, history):
    """Return the events that are started now by the rule, the first one that is startable first."""
    started = []
    # A start leaves no further events startable, so what was passed over once is passed over for good.
    for event in unstarted(plan, history):
        if is_safe(plan, with_now(plan, history, [*started, event])):
            started.append(event)
    return started


def advice(plan, history):
    """Return the list of the events to start now, in the order of the rule."""
    require_safe(plan, history)
    return starts_by_rule(plan, history)


def wait_until(plan, history):
    """Return the greatest moment up to which we can wait if nothing is seen."""
    require_safe(plan, history)
    now, moments = history
    # The next moment makes no history if a running task has to end at it.
    while now < plan[0] and is_safe_to_wait(plan, (now, moments)) and is_history(plan, (now + 1, moments)):
        now = now + 1
    return now


def are_times(plan, value):
    """Return whether a value has a time for each task of a plan that it may take."""
    if not isinstance(value, tuple) or len(value) != len(plan[3]):
        return False
    if not all([is_integer(time) for time in value]):
        return False
    return all([task[2] <= time <= task[3] for task, time in zip(plan[3], value)])


def ends_now(plan, times, history):
    """Return the ends that are seen now if the tasks take some times."""
    now = history[0]
    moments = moments_by_place(plan, history[1])
    seen = []
    for task, time in zip(plan[3], times):
        begin, end = task[:2]
        if moments[begin] is not None and moments[begin] + time == now:
            seen.append(end)
    return seen


def behind_moment(plan, times, history):
    """Return the history behind the ends of its moment, if the tasks take some times, and the starts by the rule."""
    seen = with_now(plan, history, ends_now(plan, times, history))
    return with_now(plan, seen, starts_by_rule(plan, seen))


def played(plan, times):
    """Return the run that comes about by the rule if the tasks take some times."""
    require_plan(plan)
    if not are_times(plan, times):
        raise InvalidTimes()
    reason = paper(plan)
    if reason is not None:
        raise NotKept(reason)
    _, moments = beginning(plan)
    for now in range(plan[0] + 1):
        _, moments = behind_moment(plan, times, (now, moments))
    return moments


def history_of_run(plan, run, now):
    """Return the history of a run at a moment, behind its ends and ahead of its starts."""
    mine = ours(plan)
    moments = [
        moment if moment < now or (moment == now and event not in mine) else None
        for event, moment in zip(plan[1], run)
    ]
    return (now, tuple(moments))


def blame_at(plan, run, now):
    """Return the first wrong step of a run at a moment, None if there is none."""
    history = history_of_run(plan, run, now)
    moments = moments_by_place(plan, run)
    for event in unstarted(plan, history):
        if moments[event] == now:
            history = with_now(plan, history, [event])
            if not is_safe(plan, history):
                return (now, event)
    if None in history[1] and not is_safe_to_wait(plan, history):
        return (now, WAIT)
    return None


def blame(plan, run):
    """Return the first step of a run that no strategy that keeps the plan takes, None if there is none."""
    if not is_run(plan, run):
        raise InvalidRun()
    if not is_keepable(plan):
        return (0, GO)
    # At latest it is not safe to wait for anything, so no run goes on behind it without a blame.
    for now in range(plan[0] + 1):
        step = blame_at(plan, run, now)
        if step is not None:
            return step
    return None
