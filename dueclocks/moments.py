"""Moments: those that are changed, the nearest one, and those where it is to be sought."""


def changed_moments(*things):
    """Return the moments that at least one of some calendars or rules changes, ascending."""
    return sorted({moment for thing in things for moment, _ in thing.changes})


def nearness(moment):
    """Return a key that is least for the moment nearest to 0, the greater one of two."""
    return abs(moment), -moment


def nearest(moments):
    """Return the nearest one of a list of moments, None if there is none."""
    return min(moments, key=nearness, default=None)


def beside(cuts, week, centre=0):
    """Return moments among which, of each kind of moments, are those nearest to a centre.

    A moment is of the kind of the one a week ahead of it, unless it is one of the cuts.
    """
    # So a kind lasts from a cut to a week ahead of one. Cuts at the centre part the kinds
    # there, and then either the first or the last moment of each part is the nearest one.
    parted = cuts + list(range(centre, centre + week))
    return sorted({moment for cut in parted for moment in (cut, cut - week)})
