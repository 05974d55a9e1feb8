"""Edges between the events of a plan, and all that comes from them by the rules.

An edge is a tuple (x, y, end, weight). A line is a tuple (edge, rule, places): the
places are those of the lines from which the edge comes. What is known is a dict from
(x, y, end) to (edge, place), for the lightest edge of these.
"""

from startnow.plans import GO, is_integer, is_place


def tasks_by_end(plan):
    """Return a dict from each end to its task."""
    return {task[1]: task for task in plan[3]}


def is_edge(plan, value):
    """Return whether a value can be an edge of a plan; it may be a loop."""
    if not isinstance(value, tuple) or len(value) != 4:
        return False
    x, y, end, weight = value
    if not is_place(plan[1], x) or not is_place(plan[1], y):
        return False
    if not isinstance(end, str) or not is_integer(weight):
        return False
    tasks = tasks_by_end(plan)
    return end == "" or (end in tasks and tasks[end][0] == y)


def is_loop(edge):
    """Return whether an edge leads back to where it begins."""
    return edge[0] == edge[1]


def given_edges(plan):
    """Return the given edges of a plan."""
    latest, events, bounds, tasks = plan
    edges = [(x, y, "", most) for x, y, most in bounds]
    for event in events:
        edges.append((GO, event, "", latest))
        edges.append((event, GO, "", 0))
    for begin, end, least, greatest in tasks:
        edges.append((begin, end, "", greatest))
        edges.append((end, begin, "", -least))
    return edges


def longest_edges(plan):
    """Return the longest edges of the tasks of a plan."""
    return [(end, begin, end, -greatest) for begin, end, _, greatest in plan[3]]


def sum_edge(first, second):
    """Return the edge that comes by "sum" from two edges, or None."""
    x, y, label, weight = first
    start, z, end, further = second
    if label != "" or y != start or x == z or is_loop(first) or is_loop(second):
        return None
    return (x, z, end, weight + further)


def early_edge(tasks, edge):
    """Return the edge, perhaps a loop, that comes by "early" from an edge, or None."""
    x, z, end, weight = edge
    if weight >= 0 or x not in tasks or x == end or is_loop(edge):
        return None
    return (tasks[x][0], z, end, tasks[x][2] + weight)


def sure_edge(tasks, edge):
    """Return the plain edge that comes by "sure" from an edge, or None."""
    x, y, end, weight = edge
    if end == "" or is_loop(edge):
        return None
    return (x, y, "", max(weight, -tasks[end][2]))


def is_news(known, edge):
    """Return whether an edge is a ring alone, or lighter than the known one like it."""
    x, y, end, weight = edge
    if x == y:
        return weight < 0
    return (x, y, end) not in known or weight < known[(x, y, end)][0][3]


def first_lines(plan):
    """Return the lines of the given and longest edges."""
    given = [(edge, "given", ()) for edge in given_edges(plan)]
    return given + [(edge, "longest", ()) for edge in longest_edges(plan)]


def sum_lines(known):
    """Return the lines of the news that come by "sum" from known edges."""
    starting = {}
    for x, y, _ in known:
        starting[x] = []
        starting[y] = []
    for edge, place in known.values():
        starting[edge[0]].append((edge, place))
    lines = []
    for first, place in known.values():
        for second, behind in starting[first[1]]:
            edge = sum_edge(first, second)
            if edge is not None and is_news(known, edge):
                lines.append((edge, "sum", (place, behind)))
    return lines


def task_lines(plan, known):
    """Return the lines of the news that come by "early" or "sure" from known edges."""
    tasks = tasks_by_end(plan)
    lines = []
    for edge, place in known.values():
        for rule, news in (("early", early_edge(tasks, edge)), ("sure", sure_edge(tasks, edge))):
            if news is not None and is_news(known, news):
                lines.append((news, rule, (place,)))
    return lines


def next_lines(plan, known):
    """Return the lines of the news that come by one rule from known edges."""
    return sum_lines(known) + task_lines(plan, known)


def ring_back(known, into, last):
    """Return the places of the edges of the ring that one comes to going back from last."""
    start = last
    # So many steps back lead into the ring, wherever the way to it began.
    for _ in range(len(into)):
        start = into[start][0]
    ring = [known[into[start]][1]]
    at = into[start][0]
    while at != start:
        ring.append(known[into[at]][1])
        at = into[at][0]
    return ring[::-1]


def ring_among(known):
    """Return the places of known edges that are a ring, perhaps a loop, [] if there is none."""
    reached = {name: 0 for key in known for name in key[:2]}
    into = {}
    last = None
    for _ in range(len(reached)):
        last = None
        for key in known:
            x, y = key[:2]
            total = reached[x] + known[key][0][3]
            if total < reached[y]:
                reached[y] = total
                into[y] = key
                last = y
        if last is None:
            return []
    # Ways without a ring have fewer edges than there are names: here is one with more.
    return [] if last is None else ring_back(known, into, last)


def settle(plan):
    """Return the lines that were found, what is known by them, and the places of a ring.

    The ring is [] if none comes: then nothing further comes from what is known.
    """
    lines = []
    known = {}
    coming = first_lines(plan)
    while coming:
        for line in coming:
            edge = line[0]
            if is_news(known, edge):
                known[edge[:3]] = (edge, len(lines))
                lines.append(line)
        ring = ring_among(known)
        if ring:
            return lines, known, ring
        coming = next_lines(plan, known)
    return lines, known, []


def is_keepable(plan):
    """Return whether no ring comes from a plan: then, and only then, it can be kept.

    Events, bounds and tasks may stand in any order here, and bounds may have the same x and y.
    """
    return not settle(plan)[2]
