"""Reached moments: those that a rule gives as values, and those that it misses."""

from dueclocks.checks import check_amount, check_span
from dueclocks.counts import horizon, many_in, nth_in, weekly
from dueclocks.moments import beside, changed_moments, nearest


def soonest_start(rule, goal):
    """Return the least moment with a value that is at least a goal."""
    return rule.latest_start(goal - 1) + 1


def rising_cuts(rule):
    """Return the moments at which a value may differ in a new way from the one ahead."""
    return [cut for moment in changed_moments(rule) for cut in (moment, moment + 1)]


def rises(rule, moment):
    """Tell whether the value at a moment is greater than the one ahead."""
    return rule.answer(moment) > rule.answer(moment - 1)


def rising(rule, begin, end):
    """Return the parts of a span of starts, as lists of (start, times), with new values."""
    # Of all starts of a reached moment just the first one gives a new value.
    parts = weekly(rising_cuts(rule), begin, end, rule.week)
    return [[(at, many) for at, many in part if rises(rule, at)] for part in parts]


def starts(rule, moment):
    """Return the least and the greatest moment with a value, None if there is none."""
    if moment not in rule:
        return None
    return soonest_start(rule, moment), rule.latest_start(moment)


def count_reached(rule, begin, end):
    """Return how many moments from begin to end - 1 are reached."""
    check_span(begin, end)
    return many_in(rising(rule, soonest_start(rule, begin), soonest_start(rule, end)))


def nth_reached(rule, begin, index):
    """Return the reached moment with an index among those from begin on."""
    check_amount(index)
    first = soonest_start(rule, begin)
    end = horizon(rising_cuts(rule), first, rule.week, index)
    return rule.answer(nth_in(rising(rule, first, end), rule.week, index))


def first_missed(rule):
    """Return the nearest moment that is not reached, None if there is none."""
    # Misses lie between a value and the one ahead: from the centre on all of them are greater
    # than 0, and ahead of it all are less, except those right ahead of it that lie around 0.
    centre = soonest_start(rule, 0) + 1
    missed = []
    for start in beside(rising_cuts(rule), rule.week, centre):
        low, high = rule.answer(start - 1) + 1, rule.answer(start) - 1
        if low <= high:
            missed.append(min(max(low, 0), high))
    return nearest(missed)
