"""Waits: the offsets of a rule, the least and the greatest one, and how often each one is."""

from dueclocks.checks import check_amount, check_span
from dueclocks.counts import horizon, many_in, nth_in, weekly
from dueclocks.moments import beside, changed_moments, nearest


def all_waits(rule):
    """Return all waits that there are."""
    return rule.base + [offset for _, offset in rule.changes]


def nearest_wait(rule, wait):
    """Return the tuple of a wait and the nearest moment with it."""
    moments = beside(changed_moments(rule), rule.week)
    return wait, nearest([at for at in moments if rule.offset(at) == wait])


def least_wait(rule):
    """Return the tuple of the least wait and the nearest moment with it."""
    return nearest_wait(rule, min(all_waits(rule)))


def greatest_wait(rule):
    """Return the tuple of the greatest wait and the nearest moment with it."""
    return nearest_wait(rule, max(all_waits(rule)))


def with_wait(rule, begin, end, wait):
    """Return the parts of a span, as lists of tuples (moment, times), with one wait."""
    parts = weekly(changed_moments(rule), begin, end, rule.week)
    return [[(at, many) for at, many in part if rule.offset(at) == wait] for part in parts]


def count_waits(rule, begin, end, wait):
    """Return at how many moments from begin to end - 1 the wait is the given one."""
    check_span(begin, end)
    return many_in(with_wait(rule, begin, end, wait))


def sum_waits(rule, begin, end):
    """Return the sum of the waits at the moments from begin to end - 1."""
    check_span(begin, end)
    parts = weekly(changed_moments(rule), begin, end, rule.week)
    return sum([rule.offset(at) * many for part in parts for at, many in part])


def nth_wait(rule, begin, wait, *, index=0):
    """Return the moment with an index from begin on that has a wait, None if too few have it."""
    check_amount(index)
    end = horizon(changed_moments(rule), begin, rule.week, index)
    return nth_in(with_wait(rule, begin, end, wait), rule.week, index)


def waits_from(rule, begin, many):
    """Yield the tuples (moment, value) of so many moments from begin on."""
    check_amount(many)
    for moment in range(begin, begin + many):
        yield moment, rule.answer(moment)
