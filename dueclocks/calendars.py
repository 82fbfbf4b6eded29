"""Calendars: a speed for each moment, the same in every week but for single changes."""

from dueclocks.checks import check_week, check_weeks, is_behind
from dueclocks.errors import InvalidChange, InvalidSpeed, NeverOpen
from dueclocks.moments import changed_moments

GREATEST_SPEED = 3


def is_speed(number):
    """Tell whether a number is a speed."""
    return 0 <= number <= GREATEST_SPEED


def check_speeds(speeds):
    """Raise an error if a list is not one of the speeds of a week."""
    check_week(len(speeds))
    for index, speed in enumerate(speeds):
        if not is_speed(speed):
            raise InvalidSpeed(index)
    if max(speeds) == 0:
        raise NeverOpen(0)


def check_changes(changes):
    """Raise an error if a change has a wrong speed or does not ascend."""
    for index, (_, speed) in enumerate(changes):
        if not is_speed(speed) or not is_behind(changes, index):
            raise InvalidChange(index)


def speed_pairs(one, other):
    """Return both speeds at each moment of the week, and (moment, both speeds) at each changed one."""
    check_weeks(one, other)
    weekly = list(zip(one.speeds, other.speeds))
    return weekly, [(at, (one[at], other[at])) for at in changed_moments(one, other)]


class Calendar:
    """A speed for each moment: a week of speeds, and changes of single moments."""

    def __init__(self, speeds, changes):
        check_speeds(speeds)
        check_changes(changes)
        self._speeds = list(speeds)
        # Idle changes are left out, so that equal calendars keep equal lists.
        self._changes = {
            moment: speed
            for moment, speed in changes
            if speed != speeds[moment % len(speeds)]
        }

    @property
    def week(self):
        """The number of moments of the week."""
        return len(self._speeds)

    @property
    def speeds(self):
        """The speeds of the week."""
        return list(self._speeds)

    @property
    def changes(self):
        """The changes that give another speed than that of the week, ascending."""
        return list(self._changes.items())

    def __getitem__(self, at):
        return self._changes.get(at, self._speeds[at % len(self._speeds)])

    # Without this, Python would go through the moments from 0 on for ever.
    def __iter__(self):
        raise TypeError("a calendar has no first moment")

    def __contains__(self, x):
        return self[x] != 0

    def __or__(self, other):
        weekly, changed = speed_pairs(self, other)
        return Calendar([max(pair) for pair in weekly], [(at, max(pair)) for at, pair in changed])

    def __and__(self, other):
        # The constructor raises NeverOpen if both weeks are never open together.
        weekly, changed = speed_pairs(self, other)
        return Calendar([min(pair) for pair in weekly], [(at, min(pair)) for at, pair in changed])

    def moved(self, number):
        """Return the calendar that has each speed so many moments later."""
        week = self.week
        speeds = [self._speeds[(at - number) % week] for at in range(week)]
        return Calendar(speeds, [(at + number, speed) for at, speed in self.changes])

    def __eq__(self, other):
        return (
            isinstance(other, Calendar)
            and self._speeds == other._speeds
            and self._changes == other._changes
        )
