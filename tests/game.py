"""What playing a plan in all ways says, by trying out the whole game of sections 2 and 3.

Nothing here uses edges or rules: it is what the program is held against.
"""

from itertools import combinations, product


def some_of(things):
    """All choices of some things, also of none."""
    return [chosen for many in range(len(things) + 1) for chosen in combinations(things, many)]


class Player:
    """Tries all starts and all times of a plan, moment by moment.

    notices tells for some ends how many moments ahead they are known; the others are seen when they come.
    told has for each task the moment of its end as soon as it is known.
    """

    def __init__(self, plan, notices=None):
        self.latest, self.events, self.bounds, self.tasks = plan
        self.notices = notices or {}
        ends = [task[1] for task in self.tasks]
        self.ours = [event for event in self.events if event not in ends]
        self.nothing = (0, (None,) * len(self.events))
        self.untold = (None,) * len(self.tasks)
        self.found = {}

    def moment(self, moments, place):
        return 0 if place == "go" else moments[self.events.index(place)]

    def at(self, history, events):
        """The history with some events at its moment now."""
        now, moments = history
        return (now, tuple(now if event in events else was for event, was in zip(self.events, moments)))

    def missing(self, history):
        return [event for event in self.ours if self.moment(history[1], event) is None]

    def holds(self, moments):
        for x, y, most in self.bounds:
            start, stop = self.moment(moments, x), self.moment(moments, y)
            if start is not None and stop is not None and stop - start > most:
                return False
        return all(moment is None or moment <= self.latest for moment in moments)

    def next_ones(self, history, told):
        """All that may be seen at the next moment: histories, and what is told of the ends."""
        now, moments = history[0] + 1, history[1]
        choices = []
        for (begin, end, least, greatest), known in zip(self.tasks, told):
            start = self.moment(moments, begin)
            if known is not None or start is None or self.moment(moments, end) is not None:
                choices.append([known])
                continue
            coming = now + self.notices.get(end, 0)
            if coming - start < least:
                choices.append([None])
            else:
                choices.append([coming] if coming - start == greatest else [None, coming])
        for chosen in product(*choices):
            ends = [task[1] for task, moment in zip(self.tasks, chosen) if moment == now]
            yield self.at((now, moments), ends), chosen

    def safe(self, history, told=None):
        """Whether we can go on so that the plan is kept, if we may start events now."""
        told = told or self.untold
        key = (history, told)
        if key not in self.found:
            self.found[key] = any(
                self.safe_to_wait(self.at(history, chosen), told) for chosen in some_of(self.missing(history))
            )
        return self.found[key]

    def safe_to_wait(self, history, told=None):
        now, moments = history
        if not self.holds(moments):
            return False
        if None not in moments:
            return True
        if now >= self.latest:
            return False
        return all(self.safe(other, news) for other, news in self.next_ones(history, told or self.untold))

    def histories(self, last):
        """All histories up to a moment that come about if we start events as we like."""
        layer = [self.nothing]
        while layer:
            layer = [self.at(other, chosen) for other in layer for chosen in some_of(self.missing(other))]
            yield from layer
            now = layer[0][0]
            layer = [other for one in layer for other, _ in self.next_ones(one, self.untold)] if now < last else []

    def startable(self, history):
        return [event for event in self.missing(history) if self.safe(self.at(history, [event]))]

    def advice(self, history):
        """The starts now by the rule of [8], word by word."""
        told = []
        while self.startable(history):
            told.append(self.startable(history)[0])
            history = self.at(history, told[-1:])
        return told

    def played(self, times):
        now, moments = self.nothing
        while None in moments:
            ends = [
                end
                for (begin, end, _, _), time in zip(self.tasks, times)
                if self.moment(moments, begin) is not None and self.moment(moments, begin) + time == now
            ]
            history = self.at((now, moments), ends)
            _, moments = self.at(history, self.advice(history))
            now += 1
        return moments

    def wait_until(self, history):
        now, moments = history
        while now < self.latest and self.safe_to_wait((now, moments)):
            if (now + 1, moments) not in [other for other, _ in self.next_ones((now, moments), self.untold)]:
                return now
            now += 1
        return now

    def blame(self, run):
        """The first wrong step of a run, by going through it step by step."""
        if not self.safe(self.nothing):
            return (0, "go")
        moments = self.nothing[1]
        for now in range(max(run, default=0) + 1):
            here = [event for event, moment in zip(self.events, run) if moment == now]
            history = self.at((now, moments), [event for event in here if event not in self.ours])
            for event in sorted(set(here) & set(self.ours)):
                history = self.at(history, [event])
                if not self.safe(history):
                    return (now, event)
            moments = history[1]
            if None in moments and not self.safe_to_wait(history):
                return (now, "wait")
        return None

    def careful_runs(self):
        """The runs that come about if at each moment just such starts are chosen that it is safe to wait."""
        layer = [self.nothing] if self.safe(self.nothing) else []
        runs = []
        while layer:
            chosen = [self.at(other, starts) for other in layer for starts in some_of(self.missing(other))]
            going = [other for other in chosen if self.safe_to_wait(other)]
            runs += [moments for _, moments in going if None not in moments]
            layer = [other for one in going if None in one[1] for other, _ in self.next_ones(one, self.untold)]
        return sorted(runs)


def can_be_kept(plan, notices=None):
    player = Player(plan, notices)
    return player.safe(player.nothing)


def all_runs(plan, last):
    """All runs of a plan in which our events come up to a moment."""
    latest, events, _, tasks = plan
    ends = [task[1] for task in tasks]
    ours = [event for event in events if event not in ends]
    times = [range(least, greatest + 1) for _, _, least, greatest in tasks]
    for chosen in product(*[range(last + 1) for _ in ours], *times):
        moments = dict(zip(ours, chosen))
        while len(moments) < len(events):
            for (begin, end, _, _), time in zip(tasks, chosen[len(ours):]):
                if begin in moments:
                    moments[end] = moments[begin] + time
        yield tuple(moments[event] for event in events)
