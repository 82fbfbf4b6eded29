"""The errors of the program: each one keeps the value that tells what is wrong."""


class DueError(ValueError):
    """Any error of the program."""

    def __init__(self, value):
        self.value = value


class InvalidWeek(DueError):
    """A week has too few or too many moments."""


class InvalidSpeed(DueError):
    """A speed of a week is not from 0 to 3."""


class NeverOpen(DueError):
    """No moment of a week is open."""


class InvalidChange(DueError):
    """A change has a wrong speed, or does not stand behind the one ahead of it."""


class InvalidAmount(DueError):
    """An amount, an index or another number is negative."""


class InvalidSpan(DueError):
    """A span ends before it begins."""


class InvalidMoment(DueError):
    """A moment lies before the one that a ticket has come to."""


class UnlikeWeeks(DueError):
    """Two calendars or rules have weeks of unlike numbers of moments."""


class NotRising(DueError):
    """A rule gives a later moment an earlier value."""


class WrongState(DueError):
    """A ticket is not in the state that a call needs."""


class NothingToUndo(DueError):
    """A ticket has no call that can be taken back."""


class TooMany(DueError):
    """A ticket would have more calls than it may have."""


class Unreadable(DueError):
    """No calendar or rule has this text."""
