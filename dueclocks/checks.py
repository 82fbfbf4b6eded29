"""What weeks, changes, amounts and spans are checked for."""

from dueclocks.errors import InvalidAmount, InvalidSpan, InvalidWeek, UnlikeWeeks

GREATEST_WEEK = 12


def check_week(number):
    """Raise InvalidWeek if a week cannot have so many moments."""
    if not 1 <= number <= GREATEST_WEEK:
        raise InvalidWeek(number)


def check_weeks(one, other):
    """Raise UnlikeWeeks if two calendars or rules have unlike weeks."""
    if one.week != other.week:
        raise UnlikeWeeks((one.week, other.week))


def check_amount(amount):
    """Raise InvalidAmount if an amount, an index or another number is negative."""
    if amount < 0:
        raise InvalidAmount(amount)


def check_span(begin, end):
    """Raise InvalidSpan if a span ends before it begins."""
    if end < begin:
        raise InvalidSpan((begin, end))


def is_behind(changes, index):
    """Tell whether a change of a list stands behind the one ahead of it, if there is one."""
    return index == 0 or changes[index - 1][0] < changes[index][0]
