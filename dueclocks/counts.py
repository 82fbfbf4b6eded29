"""Counting moments of a kind that recurs week after week between cuts."""


def spans(cuts, begin, end):
    """Return the parts (begin, end) into which cuts part a span, ascending."""
    inner = sorted({cut for cut in cuts if begin < cut < end})
    return list(zip([begin] + inner, inner + [end]))


def times(moment, end, week):
    """Return how many of a moment and those whole weeks behind it are less than an end."""
    return (end - moment + week - 1) // week


def weekly(cuts, begin, end, week):
    """Return a list for each part of a span, of tuples (moment, times) of its first week."""
    return [
        [(moment, times(moment, stop, week)) for moment in range(start, min(start + week, stop))]
        for start, stop in spans(cuts, begin, end)
    ]


def horizon(cuts, begin, week, index):
    """Return an end up to which each kind occurs more than index times that occurs for ever."""
    return max([begin] + cuts) + (index + 1) * week


def many_in(parts):
    """Return how many moments some parts tell of, each a list of tuples (moment, times)."""
    return sum([many for part in parts for _, many in part])


def nth_in(parts, week, index):
    """Return the moment with an index among those that parts tell of, None if too few."""
    left = index
    for part in parts:
        many = many_in([part])
        if left < many:
            weeks, place = divmod(left, len(part))
            return part[place][0] + weeks * week
        left = left - many
    return None
