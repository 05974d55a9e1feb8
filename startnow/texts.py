"""Plans and histories as texts.

A reader takes from a text what it may say, and holds the text against what would be written of that.
"""

from startnow.errors import InvalidText
from startnow.histories import is_history, require_history
from startnow.plans import is_plan, require_plan


def rows_text(rows):
    """Return the text of rows of values: a comma between rows, a space between values."""
    return ", ".join([" ".join([str(value) for value in row]) for row in rows])


def part_text(word, values):
    """Return the text of a part with a word: the word alone if there are no values."""
    return f"{word} {values}" if values else word


def show_plan(plan):
    """Return the text of a plan."""
    require_plan(plan)
    latest, events, bounds, tasks = plan
    parts = [
        part_text("latest", str(latest)),
        part_text("events", " ".join(events)),
        part_text("bounds", rows_text(bounds)),
        part_text("tasks", rows_text(tasks)),
    ]
    return "; ".join(parts)


def show_history(plan, history):
    """Return the text of a history of a plan."""
    require_history(plan, history)
    now, moments = history
    happened = [(event, moment) for event, moment in zip(plan[1], moments) if moment is not None]
    told = rows_text(happened) if happened else "none"
    return f"at {now}; {told}"


def integer_in(word):
    """Return the integer that stands in a word, None if there is none."""
    return int(word) if word.removeprefix("-").isdecimal() else None


def pieces(text, mark):
    """Return the pieces of a text between marks, [] if the text is empty."""
    return text.split(mark) if text else []


def rows_in(text):
    """Return the tuple of rows in a text: two names and integers behind them in each row."""
    rows = []
    for row in pieces(text, ", "):
        words = row.split(" ")
        rows.append((*words[:2], *[integer_in(word) for word in words[2:]]))
    return tuple(rows)


def plan_in(text):
    """Return what a text may say of a plan, perhaps no plan."""
    values = [part.partition(" ")[2] for part in text.split("; ")]
    if len(values) != 4:
        return None
    latest, events, bounds, tasks = values
    return (integer_in(latest), tuple(pieces(events, " ")), rows_in(bounds), rows_in(tasks))


def history_in(plan, text):
    """Return what a text may say of a history of a plan, perhaps no history."""
    at, _, told = text.partition("; ")
    moments = {}
    for row in told.split(", "):
        event, _, moment = row.partition(" ")
        moments[event] = integer_in(moment)
    return (integer_in(at.partition(" ")[2]), tuple([moments.get(event) for event in plan[1]]))


def parse_plan(text):
    """Return the plan that a text writes."""
    if not isinstance(text, str):
        raise InvalidText()
    plan = plan_in(text)
    if not is_plan(plan) or show_plan(plan) != text:
        raise InvalidText()
    return plan


def parse_history(plan, text):
    """Return the history of a plan that a text writes."""
    require_plan(plan)
    if not isinstance(text, str):
        raise InvalidText()
    history = history_in(plan, text)
    if not is_history(plan, history) or show_history(plan, history) != text:
        raise InvalidText()
    return history
