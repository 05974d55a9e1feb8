"""Plans as objects that never change."""

from startnow.careful import gap
from startnow.errors import InvalidBound, InvalidPair, NotDesign, OtherTasks
from startnow.histories import advice, blame, can_keep
from startnow.limits import barring, least_most
from startnow.plans import broken, is_bound, is_pair, is_run, require_plan, same_tasks
from startnow.tables import paper, table


def joined_bounds(bounds, further):
    """Return all these bounds as those of a plan, of those with the same x and y the one with the lesser most."""
    mosts = {}
    for x, y, most in [*bounds, *further]:
        mosts[(x, y)] = min(most, mosts.get((x, y), most))
    return tuple(sorted([(x, y, most) for (x, y), most in mosts.items()]))


def joined_plan(one, other):
    """Return the plan with all bounds of two plans, and the lesser latest of both."""
    if not same_tasks(one, other):
        raise OtherTasks()
    return (min(one[0], other[0]), one[1], joined_bounds(one[2], other[2]), one[3])


def table_if_kept(plan):
    """Return the table of a plan, None if it cannot be kept."""
    return table(plan) if can_keep(plan) else None


class Design:
    """A plan as an object."""

    def __init__(self, plan):
        require_plan(plan)
        self._plan = plan

    @property
    def plan(self):
        """The plan of this design."""
        return self._plan

    def __bool__(self):
        """Return whether the plan can be kept."""
        return bool(can_keep(self._plan))

    def __contains__(self, x):
        """Return whether any value is a run of the plan that keeps it."""
        return is_run(self._plan, x) and not broken(self._plan, x)

    def __eq__(self, other):
        if not isinstance(other, Design):
            return False
        # Bounds that say nothing new do not count, and of plans that cannot be kept there are no tables to compare.
        return same_tasks(self._plan, other._plan) and table_if_kept(self._plan) == table_if_kept(other._plan)

    def __add__(self, other):
        """Return the design with a further bound."""
        latest, events, bounds, tasks = self._plan
        if not is_bound(events, other):
            raise InvalidBound()
        return Design((latest, events, joined_bounds(bounds, [other]), tasks))

    def __sub__(self, other):
        """Return the design without the bound with a pair (x, y)."""
        latest, events, bounds, tasks = self._plan
        if not is_pair(events, other) or other not in [bound[:2] for bound in bounds]:
            raise InvalidPair()
        return Design((latest, events, tuple([bound for bound in bounds if bound[:2] != other]), tasks))

    def __and__(self, other):
        """Return the design with all bounds of both designs, and the lesser latest."""
        if not isinstance(other, Design):
            raise NotDesign()
        return Design(joined_plan(self._plan, other._plan))

    def __getitem__(self, at):
        """Return the weight in the table of the plain edge of a pair (x, y)."""
        if not is_pair(self._plan[1], at):
            raise InvalidPair()
        x, y = at
        weights = {edge[:3]: edge[3] for edge in table(self._plan)}
        return weights[(x, y, "")]

    def __iter__(self):
        raise TypeError("a design is not iterated over")

    def __call__(self, history):
        """Return the list of the events to start now."""
        return advice(self._plan, history)

    def table(self):
        """Return the table of the plan."""
        return table(self._plan)

    def paper(self):
        """Return a paper of the plan, None if it can be kept."""
        return paper(self._plan)

    def barring(self):
        """Return bounds none of which could be missing for the plan not to be kept, None if it can be kept."""
        return barring(self._plan)

    def blame(self, run):
        """Return the first step of a run that no strategy that keeps the plan takes, or None."""
        return blame(self._plan, run)

    def least_most(self, x, y):
        """Return the least most of a further bound from x to y with which the plan can be kept, or None."""
        return least_most(self._plan, x, y)

    def gap(self, x, y):
        """Return the least and the greatest moment of y less that of x of all careful runs, or None."""
        return gap(self._plan, x, y)
