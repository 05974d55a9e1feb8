"""Live runs once more, played by the player of tests/game.py, to compare with."""

from random import Random

from startnow import errors
from startnow.errors import PlanError
from startnow.lives import CappedLive, Live, StrictCappedLive, StrictLive
from tests.game import Player

CLASSES = (Live, StrictLive, CappedLive, StrictCappedLive)


class Play:
    """A live run that keeps all histories to which it came, and asks the player about each.

    Its methods return what the program has to return, or the name of the error class.
    """

    def __init__(self, player, strict=False, most=None):
        self.player, self.strict, self.most = player, strict, most
        self.past, self.names = [player.nothing], []

    @property
    def history(self):
        return self.past[-1]

    def twin(self):
        other = Play(self.player, self.strict, self.most)
        other.past, other.names = list(self.past), list(self.names)
        return other

    def word(self):
        return "safe" if self.player.safe(self.history) else "lost"

    def come_to(self, history, name):
        self.past.append(history)
        self.names.append(name)
        return self.word()

    def start(self, event):
        if event not in self.player.ours:
            return "InvalidEvent"
        if event not in self.player.missing(self.history):
            return "Started"
        behind = self.player.at(self.history, [event])
        if self.strict and not self.player.safe(behind):
            return "NotSafe"
        return self.come_to(behind, "start")

    def pass_on(self, *ends):
        now, moments = self.history
        behind = self.player.at((now + 1, moments), ends)
        running = [end for begin, end, _, _ in self.player.tasks if self.runs(begin, end)]
        coming = [other for other, _ in self.player.next_ones(self.history, self.player.untold)]
        if len(set(ends)) < len(ends) or not set(ends) <= set(running) or behind not in coming:
            return "InvalidEnds"
        if self.most is not None and now + 1 > self.most:
            return "TooLate"
        if self.strict and not self.player.safe_to_wait(self.history):
            return "NotSafe"
        return self.come_to(behind, "pass_on")

    def runs(self, begin, end):
        moments = self.history[1]
        return self.player.moment(moments, begin) is not None and self.player.moment(moments, end) is None

    def undo(self):
        if not self.names:
            return "NothingToUndo"
        self.past.pop()
        return self.names.pop()

    def advice(self):
        return self.player.advice(self.history) if self.word() == "safe" else "NotSafe"

    def wait_until(self):
        return self.player.wait_until(self.history) if self.word() == "safe" else "NotSafe"

    def state(self, events):
        """All that the properties of a live run tell, and the moments of some events."""
        now, moments = self.history
        return {
            "plan": (self.player.latest, self.player.events, self.player.bounds, self.player.tasks),
            "now": now,
            "history": self.history,
            "running": sorted(end for begin, end, _, _ in self.player.tasks if self.runs(begin, end)),
            "left": self.player.missing(self.history),
            "done": None not in moments,
            "len": sum(moment is not None for moment in moments),
            "moments": [dict(zip(self.player.events, moments)).get(event, None) for event in events],
            "most": self.most,
        }


def state_of(live):
    """What the properties of a live run tell, as of a play."""
    return {
        "plan": live.plan, "now": live.now, "history": live.history, "running": live.running, "left": live.left,
        "done": live.done, "len": len(live), "moments": [live[event] for event in live.plan[1]],
        "most": live.most if isinstance(live, CappedLive) else None,
    }


def outcome(call, *arguments):
    """What a call returns, or the name of the class of its error."""
    try:
        return call(*arguments)
    except PlanError as error:
        assert type(error) is getattr(errors, type(error).__name__)
        return type(error).__name__


def made_pair(kind, player, most):
    """A live run of a class, and the play that it has to be like."""
    plan = (player.latest, player.events, player.bounds, player.tasks)
    strict = issubclass(kind, StrictLive)
    if issubclass(kind, CappedLive):
        return kind(plan, most), Play(player, strict, most)
    return kind(plan), Play(player, strict)


def made_call(random, play):
    """The name of a method and its arguments, of which many are right."""
    player = play.player
    name = random.choice(["start", "start", "pass_on", "pass_on", "pass_on", "undo"])
    if name == "undo":
        return (name,)
    places = list(player.events) + ["go", "zz", ""]
    if name == "start":
        left = player.missing(play.history)
        return name, random.choice(left if left and random.random() < 0.8 else places)
    if random.random() < 0.8:
        behind, _ = random.choice(list(player.next_ones(play.history, player.untold)))
        was = play.history[1]
        ends = [event for event, one, other in zip(player.events, was, behind[1]) if one != other]
        random.shuffle(ends)
        return (name, *ends)
    return (name, *random.choices(places, k=random.randint(0, 3)))


def walk(number, kind, plan, calls=60):
    """Pairs of what a live run and a play answer to calls that were made up from a number."""
    random = Random(number)
    live, play = made_pair(kind, Player(plan), random.randint(0, plan[0] + 2))
    for _ in range(calls):
        name, *arguments = made_call(random, play)
        yield (name, *arguments), outcome(getattr(live, name), *arguments), getattr(play, name)(*arguments)
        yield "state", state_of(live), play.state(plan[1])
        if random.random() < 0.2:
            yield "advice", outcome(live.advice), play.advice()
            yield "wait_until", outcome(live.wait_until), play.wait_until()
        if random.random() < 0.1:
            # The walk goes on with one of the two; what the other one tells has to stay as it is.
            live, play = live.twin(), play.twin()
            assert type(live) is kind
