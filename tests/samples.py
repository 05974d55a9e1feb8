"""Plans and values that the tests share."""

from random import Random

A = (10, ("a", "b", "c"), (("b", "c", 2), ("c", "b", 0)), (("a", "b", 1, 3),))
D = (10, ("a", "b", "c"), (("b", "c", -1), ("c", "b", 2)), (("a", "b", 1, 3),))
E = (10, ("a", "b", "c"), (("b", "c", -1), ("c", "b", 2)), (("a", "b", 2, 4),))
G = (10, ("a", "b"), (("b", "a", -2),), (("a", "b", 1, 3),))
S = (4, ("a", "b", "c"), (("b", "c", 1), ("c", "b", 0)), (("a", "b", 1, 2),))
T = (4, ("a", "b", "c"), (("b", "c", 0), ("c", "b", 0)), (("a", "b", 1, 2),))
EMPTY = (0, (), (), ())
NONE = (None, None, None)
CHAIN = (
    20,
    ("a", "b", "c", "d"),
    (("d", "go", -4), ("go", "a", 5)),
    (("a", "b", 1, 2), ("b", "c", 1, 3), ("c", "d", 2, 2)),
)
# At the limits of [2]: two tasks of one begin, a chain behind one, bounds with "go".
LIMIT = (
    40,
    ("a", "b", "c", "d", "e", "f", "g"),
    (
        ("a", "d", 20), ("b", "d", 12), ("c", "f", 15), ("d", "b", 9), ("e", "go", -4),
        ("f", "g", 3), ("g", "f", 5), ("g", "go", -2), ("go", "a", 8), ("go", "g", 39),
    ),
    (("a", "b", 3, 9), ("a", "c", 2, 7), ("c", "e", 4, 6)),
)


class Bare:
    """A value of no kind that the program knows."""


class Equal:
    """A value that says that it equals everything."""

    def __eq__(self, other):
        return True


OTHERS = [
    None, True, False, 0, 1, -1, 7, 2 ** 70, 0.0, 1.5, float("nan"), 1j, "", "a", "go", "abc", b"", b"ab",
    (), (1,), (None,), ("a",), ((),), ((), ()), ((), (), (), ()), (0, (), ()), (0, 1, 2, 3), [], [1], [[]], [()],
    [None], ["a"], [("a", "b")], {}, {1: 2}, set(), frozenset([1]), range(3), Bare, Bare(), len, ValueError("x"),
    ([], []), ([], [0]), ([()], [0]), (((), ()), [0]), ([None], [0]), ([], ()), ({}, {}), ("ab", "cd"),
]


def with_part(value, path, part):
    """The nested tuples and lists of a value with the one at a path of indexes replaced."""
    if not path:
        return part
    changed = list(value)
    changed[path[0]] = with_part(value[path[0]], path[1:], part)
    return changed if isinstance(value, list) else tuple(changed)


def part_at(value, path):
    for step in path:
        value = value[step]
    return value


def paths(value, before=()):
    """The paths to all that a value holds, itself too."""
    found = [before]
    if isinstance(value, (tuple, list)):
        for k, part in enumerate(value):
            found += paths(part, before + (k,))
    return found


def lists_within(value):
    """All list objects of a value, itself too."""
    found = [value] if isinstance(value, list) else []
    if isinstance(value, (tuple, list)):
        for part in value:
            found += lists_within(part)
    return found


def made_plan(number, events=4, bounds=4, tasks=2, latest=8, slack=2, time=3):
    """A plan within these sizes, made up from a number.

    Chains of tasks and tasks of one begin come up. Most bounds hold with a little to
    spare in one run that was made up first, so the plan can be kept just or just not.
    """
    random = Random(number)
    names = sorted(random.sample("abcdefghijkl", random.randint(1, events)))
    order = list(names)
    random.shuffle(order)
    rows = {}
    for _ in range(random.randint(0, tasks)):
        at = random.randint(0, len(order) - 1)
        if at > 0:
            # An end comes behind its begin in one order of all events, so none goes round.
            least = random.randint(1, time)
            rows[order[at]] = (random.choice(order[:at]), order[at], least, random.randint(least, time))
    run = {"go": 0}
    for event in order:
        begin, _, least, greatest = rows.get(event, ("go", event, 0, latest // 2))
        run[event] = run[begin] + random.randint(least, greatest)
    pairs = [(x, y) for x in run for y in run if x != y]
    chosen = random.sample(pairs, min(len(pairs), random.randint(0, bounds)))
    limits = [(x, y, run[y] - run[x] + random.randint(-1, slack)) for x, y in chosen]
    return (latest, tuple(names), tuple(sorted(limits)), tuple(sorted(rows.values())))


def limit_plan(number):
    """A plan at the documented limits: seven events, ten bounds, three tasks, latest 40."""
    random = Random(number)
    names = "abcdefg"
    order = random.sample(names, 7)
    rows = {}
    while len(rows) < 3:
        at = random.randint(1, 6)
        least = random.randint(1, random.choice([6, 12, 40]))
        rows[order[at]] = (random.choice(order[:at]), order[at], least, random.randint(least, min(40, least + 4)))
    run = {"go": 0}
    for event in order:
        begin, _, least, greatest = rows.get(event, ("go", event, 0, 20))
        run[event] = run[begin] + random.randint(least, greatest)
    pairs = [(x, y) for x in run for y in run if x != y]
    bounds = [(x, y, max(-100, min(100, run[y] - run[x] + random.randint(0, 8)))) for x, y in random.sample(pairs, 10)]
    return (40, tuple(names), tuple(sorted(bounds)), tuple(sorted(rows.values())))


def notice_plan(number):
    """A small plan in which c is started ahead of the end b, so it may hang on a notice of it.

    The end may be the begin of a further task, and its begin an end as well.
    """
    random = Random(number)
    names = random.sample("abcdefghi", random.randint(3, 5))
    a, b, c = names[:3]
    least = random.randint(2, 4)
    ahead = random.randint(0, least - 1)
    rows = [(a, b, least, random.randint(least, least + 2))]
    limits = {(b, c): -ahead, (c, b): ahead + random.randint(0, 1)}
    for name in names[3:]:
        if random.random() < 0.6:
            time = random.randint(1, 3)
            rows.append((random.choice(names[:3]), name, time, random.randint(time, time + 1)))
        other = random.choice([one for one in names if one != name])
        limits[(name, other)] = random.randint(-2, 3)
        if random.random() < 0.5:
            limits[(other, name)] = random.randint(-1, 4)
    if random.random() < 0.4:
        limits[("go", random.choice(names))] = random.randint(1, 7)
    bounds = [(x, y, most) for (x, y), most in limits.items()]
    return (random.randint(5, 8), tuple(sorted(names)), tuple(sorted(bounds)), tuple(sorted(rows)))
