"""Work, amounts and open moments of calendars."""

from dueclocks.calendars import Calendar
from dueclocks.checks import check_amount, check_span, check_weeks
from dueclocks.moments import changed_moments, nearest


def weekly_tally(speeds, moment):
    """Return the work of the bare weeks from 0 to a moment, below 0 ahead of 0."""
    weeks, rest = divmod(moment, len(speeds))
    return weeks * sum(speeds) + sum(speeds[:rest])


def weekly_work(speeds, begin, end):
    """Return the work of the bare weeks from one moment to another one."""
    return weekly_tally(speeds, end) - weekly_tally(speeds, begin)


def weekly_due(speeds, begin, left):
    """Return the end at which an amount is done in the bare weeks, begin if none is left."""
    # Whole weeks are skipped at once, as amounts are great; a part of a week remains.
    weeks = max(left - 1, 0) // sum(speeds)
    left = left - weeks * sum(speeds)
    end = begin + weeks * len(speeds)
    while left > 0:
        left = left - speeds[end % len(speeds)]
        end += 1
    return end


def mirrored(calendar):
    """Return the calendar that has at -1 - t the speed that this one has at t."""
    changes = [(-1 - moment, speed) for moment, speed in calendar.changes]
    return Calendar(calendar.speeds[::-1], changes[::-1])


def counting(calendar):
    """Return the calendar with the speed 1 at each open moment."""
    speeds = [min(speed, 1) for speed in calendar.speeds]
    return Calendar(speeds, [(moment, min(speed, 1)) for moment, speed in calendar.changes])


def work(calendar, begin, end):
    """Return the work from one moment to another one."""
    check_span(begin, end)
    speeds = calendar.speeds
    gains = [
        speed - speeds[moment % len(speeds)]
        for moment, speed in calendar.changes
        if begin <= moment < end
    ]
    return weekly_work(speeds, begin, end) + sum(gains)


def due(calendar, moment, amount):
    """Return the end at which an amount is done that is begun at a moment."""
    check_amount(amount)
    speeds = calendar.speeds
    begin, left = moment, amount
    for changed, speed in calendar.changes:
        if changed < begin:
            continue
        before = weekly_work(speeds, begin, changed)
        if before >= left:
            break
        left = left - before - speed
        begin = changed + 1
    return weekly_due(speeds, begin, left)


def latest(calendar, moment, amount):
    """Return the greatest begin from which an amount is done at a moment or earlier."""
    # Seen backwards, the latest begin is the end at which the amount is done.
    return -due(mirrored(calendar), -moment, amount)


def next_open(calendar, moment):
    """Return the least open moment that is not less than a moment."""
    # The amount 1 is done right behind the first open moment.
    return due(calendar, moment, 1) - 1


def last_open(calendar, moment):
    """Return the greatest open moment that is not greater than a moment."""
    return latest(calendar, moment + 1, 1)


def count_open(calendar, begin, end):
    """Return how many moments from begin to end - 1 are open."""
    return work(counting(calendar), begin, end)


def nth_open(calendar, moment, index):
    """Return the open moment with an index among those from a moment on."""
    check_amount(index)
    return due(counting(calendar), moment, index + 1) - 1


def first_unlike(calendar, other):
    """Return the nearest moment at which two calendars have unlike speeds, None if none."""
    check_weeks(calendar, other)
    changed = changed_moments(calendar, other)
    # Changes hide at most so many weeks: one week more on either side shows the others.
    reach = (len(changed) + 1) * calendar.week
    moments = list(range(-reach, reach)) + changed
    return nearest([at for at in moments if calendar[at] != other[at]])
