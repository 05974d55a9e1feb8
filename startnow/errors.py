"""The errors of the package: one class for each kind of failure."""


class PlanError(ValueError):
    """The class above all errors of the package."""


class InvalidPlan(PlanError):
    """A value is no plan."""


class InvalidRun(PlanError):
    """A value is no run of the plan."""


class InvalidHistory(PlanError):
    """A value is no history of the plan."""


class InvalidTimes(PlanError):
    """A value is no tuple of times that the tasks of the plan can take."""


class InvalidEvent(PlanError):
    """A value is no event of the kind that is asked for."""


class InvalidText(PlanError):
    """A value is no text of the kind that is read."""


class InvalidBound(PlanError):
    """A value can be no bound of the plan."""


class InvalidPair(PlanError):
    """A value is no pair of the kind that is asked for."""


class InvalidEnds(PlanError):
    """Values are not the ends that can be seen at the next moment."""


class InvalidNumber(PlanError):
    """A value is no integer of the kind that is asked for."""


class SameEvent(PlanError):
    """Two events that have to be unlike are equal."""


class OtherTasks(PlanError):
    """Two plans have unlike events or tasks."""


class NotDesign(PlanError):
    """A value is no design."""


class NotSafe(PlanError):
    """A history is not safe, or it is not safe to go on so."""


class Started(PlanError):
    """An event was started before."""


class NothingToUndo(PlanError):
    """There is no call to take back."""


class TooLate(PlanError):
    """A moment lies beyond the last one that is allowed."""


class NotKept(PlanError):
    """A plan cannot be kept; the attribute reason is a paper that shows it."""

    def __init__(self, reason):
        super().__init__("the plan cannot be kept")
        self.reason = reason
