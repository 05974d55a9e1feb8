"""The runs that can come about by strategies that keep a plan."""

from startnow.errors import InvalidEvent, OtherTasks
from startnow.histories import beginning, unstarted, with_now
from startnow.plans import is_place, moments_by_place, require_plan, same_tasks


def is_lost(plan, history):
    """Return whether it is plain that a plan is not kept if nothing further happens now."""
    now, moments = history
    latest, _, bounds, _ = plan
    if now >= latest and None in moments:
        return True
    known = moments_by_place(plan, moments)
    for x, y, most in bounds:
        # What did not happen by now comes at the next moment or later.
        soonest = now + 1 if known[y] is None else known[y]
        if known[x] is not None and soonest - known[x] > most:
            return True
    return False


def behind_starts(plan, history):
    """Return the histories behind each choice of events that can be started now."""
    found = [history]
    for event in unstarted(plan, history):
        found = found + [with_now(plan, other, [event]) for other in found]
    return found


def behind_ends(plan, history):
    """Return the histories at the next moment behind all ends that may be seen at it."""
    now, moments = history
    known = moments_by_place(plan, moments)
    found = [(now + 1, moments)]
    for begin, end, least, greatest in plan[3]:
        if known[begin] is not None and known[end] is None:
            time = now + 1 - known[begin]
            ended = [with_now(plan, other, [end]) for other in found] if time >= least else []
            found = ended + (found if time < greatest else [])
    return found


def runs_by_waiting(plan, history):
    """Return the careful runs on which nothing further happens at the moment of a history.

    They are [] if it is not safe to wait.
    """
    if is_lost(plan, history):
        return []
    if None not in history[1]:
        return [history[1]]
    runs = []
    for other in behind_ends(plan, history):
        further = runs_through(plan, other)
        if not further:
            return []
        runs = runs + further
    return runs


def runs_through(plan, history):
    """Return the careful runs that come through a history, [] if it is not safe."""
    return [run for other in behind_starts(plan, history) for run in runs_by_waiting(plan, other)]


def careful_runs(plan):
    """Return the careful runs of a plan, each once."""
    return runs_through(plan, beginning(plan))


def gap(plan, x, y):
    """Return the least and the greatest moment of y less that of x of all careful runs, or None."""
    require_plan(plan)
    if not is_place(plan[1], x) or not is_place(plan[1], y):
        raise InvalidEvent()
    known = [moments_by_place(plan, run) for run in careful_runs(plan)]
    gaps = [moments[y] - moments[x] for moments in known]
    return (min(gaps), max(gaps)) if gaps else None


def many_runs(plan):
    """Return the number of careful runs of a plan."""
    require_plan(plan)
    return len(careful_runs(plan))


def parting_run(one, other):
    """Return the least run that is careful for just one of two plans, or None."""
    require_plan(one)
    require_plan(other)
    if not same_tasks(one, other):
        raise OtherTasks()
    mine = {run: True for run in careful_runs(one)}
    theirs = {run: True for run in careful_runs(other)}
    parting = [run for run in mine if run not in theirs] + [run for run in theirs if run not in mine]
    return min(parting) if parting else None


def alike(one, other):
    """Return whether two plans with the same events and tasks have the same careful runs."""
    return parting_run(one, other) is None
