"""Comparing rules: where they part, what must follow one, and whether one is a wait."""

from dueclocks.checks import check_weeks
from dueclocks.moments import beside, changed_moments, nearest
from dueclocks.rules import Rule
from dueclocks.waits import least_wait


def telling_moments(rule, other):
    """Return moments among which are the nearest ones at which two rules part."""
    return beside(changed_moments(rule, other), rule.week)


def parting(rule, other):
    """Return the nearest moment at which two rules have unlike values, None if none."""
    check_weeks(rule, other)
    moments = telling_moments(rule, other)
    return nearest([at for at in moments if rule.offset(at) != other.offset(at)])


def first_later(rule, other):
    """Return the nearest moment at which the first of two rules is later, None if none."""
    check_weeks(rule, other)
    moments = telling_moments(rule, other)
    return nearest([at for at in moments if rule.offset(at) > other.offset(at)])


def parting_in_turn(rule, other):
    """Return the nearest moment at which it matters which of two rules is first, None if none."""
    return parting(rule >> other, other >> rule)


def is_torn(rule, whole):
    """Tell whether one value of a rule stands beside several values of the whole."""
    cuts = [cut for moment in changed_moments(rule, whole) for cut in (moment, moment + 1)]
    torn = [
        moment
        for moment in beside(cuts, rule.week)
        if rule.answer(moment - 1) == rule.answer(moment)
        and whole.answer(moment - 1) != whole.answer(moment)
    ]
    return torn != []


def followed(rule, whole):
    """Return the least rule that makes the whole when it follows a rule, None if there is none."""
    check_weeks(rule, whole)
    if is_torn(rule, whole):
        return None
    # A moment that is not reached gets the value of the reached one ahead of it, as
    # it cannot have less.
    return ~rule >> whole


def soonest(rule):
    """Return the rule that gives the least moment whose value is at least the given one."""
    late = ~rule
    # It is right behind the latest start for the moment ahead, so each offset comes one later.
    base = late.base
    changes = [(moment + 1, offset) for moment, offset in late.changes]
    return Rule(base[-1:] + base[:-1], changes)


def is_wait(rule):
    """Tell whether a rule never goes back, and waits no more where it has come to."""
    wait, _ = least_wait(rule)
    return wait >= 0 and rule >> rule == rule
