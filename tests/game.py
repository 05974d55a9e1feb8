"""Whether a plan can be kept, by trying out the whole game of section 2 and 3.

Nothing here uses edges or rules: it is what the tables and papers are held against.
"""

from itertools import combinations


def can_be_kept(plan):
    latest, events, bounds, tasks = plan
    ends = {task[1]: task for task in tasks}
    ours = [event for event in events if event not in ends]
    known = {}

    def some(things):
        return [chosen for many in range(len(things) + 1) for chosen in combinations(things, many)]

    def holds(moments):
        return all(
            moments[y] - moments[x] <= most
            for x, y, most in bounds
            if x in moments and y in moments
        )

    def won_behind_ends(now, moments):
        """Whether we can win, once the ends of the moment now have been seen."""
        key = (now, tuple(sorted(moments.items())))
        if key not in known:
            known[key] = any(
                won_by_waiting(now, {**moments, **{event: now for event in chosen}})
                for chosen in some([event for event in ours if event not in moments])
            )
        return known[key]

    def won_by_waiting(now, moments):
        if not holds(moments):
            return False
        if len(moments) == len(events) + 1:
            return True
        if now == latest:
            return False
        may, must = [], []
        for begin, end, least, greatest in tasks:
            if begin in moments and end not in moments:
                time = now + 1 - moments[begin]
                if time == greatest:
                    must.append(end)
                elif time >= least:
                    may.append(end)
        return all(
            won_behind_ends(now + 1, {**moments, **{end: now + 1 for end in [*must, *chosen]}})
            for chosen in some(may)
        )

    return won_behind_ends(0, {"go": 0})
