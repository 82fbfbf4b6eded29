"""What calendars and rules have in common: the week check and the nearest moment."""

from dueclocks.errors import UnlikeWeeks


def check_weeks(one, other):
    """Raise UnlikeWeeks if two calendars or rules have unlike weeks."""
    if one.week != other.week:
        raise UnlikeWeeks((one.week, other.week))


def nearness(moment):
    """Return a key that is least for the moment nearest to 0, the greater one of two."""
    return abs(moment), -moment


def nearest(moments):
    """Return the nearest one of a list of moments, None if there is none."""
    return min(moments, key=nearness, default=None)
