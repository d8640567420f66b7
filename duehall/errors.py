"""The refusals, one class for each."""


class DueError(ValueError):
    pass


class NoZone(DueError):
    pass


class NoPlan(DueError):
    pass


class NoMoment(DueError):
    pass


class NoCount(DueError):
    pass


class NoDeeds(DueError):
    pass


class NoDeed(DueError):
    pass


class NoRunner(DueError):
    pass


class NoTerm(DueError):
    pass


class NotHolder(DueError):
    pass


class Nothing(DueError):
    pass


class NoCall(DueError):
    pass


class NoText(DueError):
    pass


class NoWidth(DueError):
    pass


class NoHolds(DueError):
    pass
