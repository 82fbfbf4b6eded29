"""Rules that are applied again and again: where they lead, when, and how fast."""

from math import gcd

from dueclocks.checks import check_amount
from dueclocks.lanes import many_upto
from dueclocks.moments import changed_moments
from dueclocks.rules import Rule
from dueclocks.waits import all_waits


def trail(rule, moment, times, low, high):
    """Return a moment and those it leads to, at most so many, up to the first one not in a zone."""
    found = [moment]
    while len(found) <= times and low <= found[-1] < high:
        found.append(rule.answer(found[-1]))
    return found


def last_lap(moments, week):
    """Return the tuple (times, gain) from the first of some moments like the last one to it.

    A moment is like another one if they are whole weeks apart.
    """
    rests = [moment % week for moment in moments]
    first = rests.index(rests[-1])
    return len(moments) - 1 - first, moments[-1] - moments[first]


def rounds_within(moment, gain, low, high):
    """Return how many times a moment may gain so much, and stays in a zone."""
    if gain > 0:
        return (high - 1 - moment) // gain
    return (moment - low) // -gain


def leap(rule, moment, times, low, high):
    """Return where a rule leads in a zone without changes, and how many of the times are left."""
    moments = trail(rule, moment, min(times, rule.week), low, high)
    reached, left = moments[-1], times - len(moments) + 1
    if left == 0 or not low <= reached < high:
        return reached, left
    # These are more moments than a week has, so the last one is like one ahead of it, and
    # as long as it stays in the zone the way between the two goes on and on.
    many, gain = last_lap(moments, rule.week)
    if gain == 0:
        return reached, 0
    rounds = min(left // many, rounds_within(reached, gain, low, high))
    return reached + rounds * gain, left - rounds * many


def journey(rule, moment, times, low, goal):
    """Return where a rule leads in so many times, or in those up to a goal, and those left.

    The rule leads nowhere below low.
    """
    cuts = sorted([low, goal] + changed_moments(rule))
    reached, left = moment, times
    while left > 0 and reached < goal:
        index = many_upto(cuts, reached)
        reached, left = leap(rule, reached, left, cuts[index - 1], cuts[index])
    return reached, left


def after(rule, moment, times):
    """Return the value of a rule that is applied so many times at a moment."""
    check_amount(times)
    # Farther than this it cannot lead.
    reach = times * max([abs(wait) for wait in all_waits(rule)])
    reached, _ = journey(rule, moment, times, moment - reach, moment + reach)
    return reached


def orbit(rule, moment, times):
    """Yield a moment, and the values of a rule that is applied once, twice, up to so many times."""
    check_amount(times)
    reached = moment
    yield reached
    for _ in range(times):
        reached = rule.answer(reached)
        yield reached


def times_until(rule, moment, goal):
    """Return the least number of times until a value is at least a goal, None if it never is."""
    if goal <= moment:
        return 0
    if rule.answer(moment) <= moment:
        return None
    # Each time leads at least one moment up, until the rule stands still for ever.
    most = goal - moment
    reached, left = journey(rule, moment, most, moment, goal)
    return most - left if reached >= goal else None


def last_offsets(rule):
    """Return the offsets of a week behind all changes."""
    last = max(changed_moments(rule), default=0)
    begin = last - last % rule.week + rule.week
    return [rule.offset(begin + rest) for rest in range(rule.week)]


def rate(rule):
    """Return the fraction by which a rule without changes goes on each time."""
    times, gain = last_lap(list(orbit(rule, 0, rule.week)), rule.week)
    shared = gcd(gain, times)
    return gain // shared, times // shared


def rates(rule):
    """Return the fractions of the rules with the first and with the last offsets of a rule."""
    return rate(Rule(rule.base, [])), rate(Rule(last_offsets(rule), []))
