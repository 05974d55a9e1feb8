"""Live runs: objects that play a plan moment by moment."""

from startnow.errors import InvalidEnds, InvalidEvent, InvalidNumber, NotSafe, NothingToUndo, Started, TooLate
from startnow.histories import advice, beginning, is_history, safe, safe_to_wait, unstarted, wait_until, with_now
from startnow.plans import is_moment, is_plan, moments_by_place, ours, require_plan
from startnow.texts import parse_history, show_history, show_plan


def is_one_of(names, value):
    """Return whether any value is one of some names."""
    # Only strings are compared: other values may say of themselves that they equal anything.
    return isinstance(value, str) and value in names


def running_ends(plan, history):
    """Return the ascending list of the ends of the tasks that run."""
    moments = moments_by_place(plan, history[1])
    return sorted([task[1] for task in plan[3] if moments[task[0]] is not None and moments[task[1]] is None])


def behind_next(plan, history, ends):
    """Return the history at the next moment if just these ends are seen at it."""
    running = running_ends(plan, history)
    for place, end in enumerate(ends):
        if not is_one_of(running, end) or end in ends[:place]:
            raise InvalidEnds()
    now, moments = history
    behind = with_now(plan, (now + 1, moments), ends)
    # It is no history if a task ended ahead of its least time, or goes on at its greatest one.
    if not is_history(plan, behind):
        raise InvalidEnds()
    return behind


class Live:
    """A live run of a plan, which begins at the moment 0."""

    PARTS = 4

    def __init__(self, plan):
        require_plan(plan)
        self._plan = plan
        self._history = beginning(plan)
        # The calls that can be taken back, each with the history ahead of it.
        self._calls = []

    @staticmethod
    def is_valid(value):
        """Return whether any value can be the plan of a live run."""
        return is_plan(value)

    @classmethod
    def read(cls, plan, text):
        """Return a live run of this class that has come to the history of a text."""
        live = cls(plan)
        history = parse_history(plan, text)
        live._check_coming(history)
        live._history = history
        return live

    @classmethod
    def _begun(cls, plan):
        """Return a live run of this class to which nothing has happened."""
        return cls(plan)

    @property
    def plan(self):
        """The plan that is played."""
        return self._plan

    @property
    def now(self):
        """The moment to which this run has come."""
        return self._history[0]

    @property
    def history(self):
        """The history to which this run has come."""
        return self._history

    @property
    def running(self):
        """The ascending list of the ends of the tasks that run."""
        return running_ends(self._plan, self._history)

    @property
    def left(self):
        """The ascending list of the events of ours that are not started."""
        return unstarted(self._plan, self._history)

    @property
    def done(self):
        """Whether all events have happened."""
        return None not in self._history[1]

    def __len__(self):
        """Return the number of events that have happened."""
        return len([moment for moment in self._history[1] if moment is not None])

    def __getitem__(self, at):
        """Return the moment of an event, None if it did not happen."""
        if not is_one_of(self._plan[1], at):
            raise InvalidEvent()
        return moments_by_place(self._plan, self._history[1])[at]

    def __iter__(self):
        raise TypeError("a live run is not iterated over")

    def start(self, event):
        """Start an event of ours now, and return the word for the history behind it."""
        if not is_one_of(ours(self._plan), event):
            raise InvalidEvent()
        if event not in self.left:
            raise Started()
        behind = with_now(self._plan, self._history, [event])
        self._check_coming(behind)
        return self._come_to(behind, "start")

    def pass_on(self, *ends):
        """Go on to the next moment, at which just these ends are seen, and return the word for what is there."""
        behind = behind_next(self._plan, self._history, ends)
        self._check_waiting()
        return self._come_to(behind, "pass_on")

    def advice(self):
        """Return the list of the events to start now."""
        return advice(self._plan, self._history)

    def wait_until(self):
        """Return the greatest moment up to which one can wait if nothing is seen."""
        return wait_until(self._plan, self._history)

    def undo(self):
        """Take back the last call of start or pass_on, and return which one it was."""
        if not self._calls:
            raise NothingToUndo()
        name, before = self._calls.pop()
        self._history = before
        return name

    def twin(self):
        """Return another live run like this one."""
        other = self._begun(self._plan)
        other._history = self._history
        other._calls = list(self._calls)
        return other

    def tell(self):
        """Return the texts of the plan and of the history, the word for it, and the marks of the class."""
        texts = [show_plan(self._plan), show_history(self._plan, self._history)]
        return [*texts, self._word(), *self._marks()]

    def _word(self):
        """Return the word that says whether the history is safe."""
        return "safe" if safe(self._plan, self._history) else "lost"

    def _come_to(self, history, name):
        """Come to a history by a call that can be taken back, and return the word for it."""
        self._calls.append((name, self._history))
        self._history = history
        return self._word()

    # Classes below this one add what they do not allow, and the marks that tell of it.

    def _check_coming(self, history):
        """Raise an error if a start, or a text, may not lead to a history."""

    def _check_waiting(self):
        """Raise an error if this run may not go on to the next moment."""

    def _marks(self):
        """Return the strings that stand behind all others in what is told."""
        return []


class CappedLive(Live):
    """A live run that does not go beyond a moment."""

    def __init__(self, plan, most=40):
        super().__init__(plan)
        if not is_moment(most):
            raise InvalidNumber()
        self._most = most

    @property
    def most(self):
        """The last moment to which this run goes on."""
        return self._most

    def twin(self):
        """Return another live run like this one."""
        other = super().twin()
        other._most = self._most
        return other

    def _check_coming(self, history):
        super()._check_coming(history)
        if history[0] > self._most:
            raise TooLate()

    def _check_waiting(self):
        super()._check_waiting()
        if self.now >= self._most:
            raise TooLate()

    def _marks(self):
        return [f"most {self._most}"] + super()._marks()


class StrictLive(Live):
    """A live run that stays safe."""

    def _check_coming(self, history):
        super()._check_coming(history)
        if not safe(self._plan, history):
            raise NotSafe()

    def _check_waiting(self):
        super()._check_waiting()
        if not safe_to_wait(self._plan, self._history):
            raise NotSafe()

    def _marks(self):
        return ["strict"] + super()._marks()


class StrictCappedLive(StrictLive, CappedLive):
    """A live run that stays safe and does not go beyond a moment.

    StrictLive asks CappedLive first, so TooLate comes ahead of NotSafe.
    """
