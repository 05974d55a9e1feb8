"""The rules of section 4 written once more, as plainly as can be, to compare with."""


def starting_edges(plan):
    latest, events, bounds, tasks = plan
    edges = [(x, y, "", most) for x, y, most in bounds]
    edges += [("go", event, "", latest) for event in events]
    edges += [(event, "go", "", 0) for event in events]
    edges += [(begin, end, "", greatest) for begin, end, least, greatest in tasks]
    edges += [(end, begin, "", -least) for begin, end, least, greatest in tasks]
    edges += [(end, begin, end, -greatest) for begin, end, least, greatest in tasks]
    return edges


def coming_edges(plan, edges):
    """All edges, loops too, that come by one rule from edges that are no loops."""
    found = []
    for x, y, end, weight in edges:
        for begin, task_end, least, greatest in plan[3]:
            if x == task_end and end != x and weight < 0:
                found.append((begin, y, end, least + weight))
            if end == task_end:
                found.append((x, y, "", max(weight, -least)))
        for y2, z, end2, weight2 in edges:
            if end == "" and y == y2 and x != z:
                found.append((x, z, end2, weight + weight2))
    return found


def has_ring(edges):
    if any(edge[0] == edge[1] and edge[3] < 0 for edge in edges):
        return True
    names = sorted({name for edge in edges for name in edge[:2]})
    far = {(x, y): float("inf") for x in names for y in names}
    for x, y, end, weight in edges:
        far[(x, y)] = min(far[(x, y)], weight)
    for y in names:
        for x in names:
            for z in names:
                far[(x, z)] = min(far[(x, z)], far[(x, y)] + far[(y, z)])
    return any(far[(x, x)] < 0 for x in names)


def naive_table(plan):
    """The table of a plan as a sorted list, None if a ring comes."""
    weights = {}
    coming = starting_edges(plan)
    changed = True
    while changed:
        changed = False
        for edge in coming:
            if edge[0] == edge[1]:
                if edge[3] < 0:
                    return None
            elif edge[:3] not in weights or edge[3] < weights[edge[:3]]:
                weights[edge[:3]] = edge[3]
                changed = True
        edges = sorted(key + (weight,) for key, weight in weights.items())
        if has_ring(edges):
            return None
        coming = coming_edges(plan, edges)
    return edges


def naive_is_table(plan, edges):
    """is_table for lists of edges of the plan, which may be loops or come twice."""
    keys = [edge[:3] for edge in edges]
    if any(edge[0] == edge[1] for edge in edges) or len(set(keys)) < len(keys) or has_ring(edges):
        return False
    weights = {edge[:3]: edge[3] for edge in edges}
    for edge in starting_edges(plan) + coming_edges(plan, edges):
        if edge[0] == edge[1]:
            if edge[3] < 0:
                return False
        elif edge[:3] not in weights or weights[edge[:3]] > edge[3]:
            return False
    return True
