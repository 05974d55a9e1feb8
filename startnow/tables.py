"""Tables, which show that a plan can be kept, and papers, which show that it cannot."""

from startnow.edges import early_edge, first_lines, given_edges, is_edge, is_loop, is_news
from startnow.edges import longest_edges, next_lines, ring_among, settle, sum_edge, sure_edge, tasks_by_end
from startnow.errors import NotKept
from startnow.plans import is_integer, require_plan


def paper_of(lines, ring):
    """Return the paper with a ring and those of the lines on which it rests."""
    needed = {place: True for place in ring}
    for place in reversed(range(len(lines))):
        if place in needed:
            for source in lines[place][2]:
                needed[source] = True
    kept = sorted(needed)
    moved = {place: k for k, place in enumerate(kept)}
    told = []
    for place in kept:
        edge, rule, places = lines[place]
        told.append((edge, rule, tuple([moved[source] for source in places])))
    return (told, [moved[place] for place in ring])


def table(plan):
    """Return the ascending list of the lightest edges that come from a plan."""
    require_plan(plan)
    lines, known, ring = settle(plan)
    if ring:
        raise NotKept(paper_of(lines, ring))
    return sorted([edge for edge, _ in known.values()])


def paper(plan):
    """Return a paper of a plan that cannot be kept, None for one that can."""
    require_plan(plan)
    lines, _, ring = settle(plan)
    return paper_of(lines, ring) if ring else None


def is_table(plan, value):
    """Return whether any value is a list of edges that shows that a plan can be kept."""
    require_plan(plan)
    if not isinstance(value, list):
        return False
    known = {}
    for place, edge in enumerate(value):
        if not is_edge(plan, edge) or is_loop(edge) or edge[:3] in known:
            return False
        known[edge[:3]] = (edge, place)
    if ring_among(known) or next_lines(plan, known):
        return False
    return not any([is_news(known, line[0]) for line in first_lines(plan)])


def are_places(values, many):
    """Return whether all values are indexes in a list with so many items."""
    return all([is_integer(value) and 0 <= value < many for value in values])


def allowed_edges(plan, rule, sources):
    """Return the edges that may stand in a line with this rule and these sources."""
    tasks = tasks_by_end(plan)
    if rule == "given" and len(sources) == 0:
        return given_edges(plan)
    if rule == "longest" and len(sources) == 0:
        return longest_edges(plan)
    if rule == "sum" and len(sources) == 2:
        return [sum_edge(sources[0], sources[1])]
    if rule == "early" and len(sources) == 1:
        return [early_edge(tasks, sources[0])]
    if rule == "sure" and len(sources) == 1:
        return [sure_edge(tasks, sources[0])]
    return []


def is_line(plan, edges, value):
    """Return whether a value is a line behind lines with these edges."""
    if not isinstance(value, tuple) or len(value) != 3:
        return False
    edge, rule, places = value
    if not is_edge(plan, edge) or not isinstance(places, tuple) or not are_places(places, len(edges)):
        return False
    return edge in allowed_edges(plan, rule, [edges[place] for place in places])


def is_ring(row):
    """Return whether a row of edges is a ring."""
    if len(row) > 1 and any([is_loop(edge) for edge in row]):
        return False
    # The edge before the first one is the last one, by the index -1.
    closed = all([row[k - 1][1] == row[k][0] for k in range(len(row))])
    # An empty row sums up to 0, so it is none.
    return closed and sum([edge[3] for edge in row]) < 0


def is_paper(plan, value):
    """Return whether any value is a paper of a plan."""
    require_plan(plan)
    if not isinstance(value, tuple) or len(value) != 2:
        return False
    lines, ring = value
    if not isinstance(lines, list) or not isinstance(ring, list):
        return False
    edges = []
    for line in lines:
        if not is_line(plan, edges, line):
            return False
        edges.append(line[0])
    return are_places(ring, len(edges)) and is_ring([edges[place] for place in ring])
