"""Lanes: the moments with one remainder by the week, and their offsets and values."""


def many_upto(numbers, limit):
    """Return how many of a list of ascending numbers are at most a limit."""
    low, high = 0, len(numbers)
    while low < high:
        middle = (low + high) // 2
        if numbers[middle] <= limit:
            low = middle + 1
        else:
            high = middle
    return low


def telling_changes(base, changes):
    """Return the changes that give another offset than would be there without them."""
    offsets = list(base)
    told = []
    for moment, offset in changes:
        rest = moment % len(offsets)
        if offset != offsets[rest]:
            told.append((moment, offset))
        offsets[rest] = offset
    return told


def lanes_of(base, changes):
    """Return the lanes of a rule, one for each remainder by the week."""
    shares = [[] for _ in base]
    for moment, offset in changes:
        shares[moment % len(base)].append((moment, offset))
    return [Lane(rest, len(base), base[rest], share) for rest, share in enumerate(shares)]


class Lane:
    """The moments with one remainder by the week, with their offsets."""

    def __init__(self, rest, step, offset, changes):
        self.rest = rest
        self.step = step
        # The marks are the changed moments; at each index is the offset behind so many of them.
        self.marks = [moment for moment, _ in changes]
        self.offsets = [offset, *[changed for _, changed in changes]]
        self.goals = [moment + changed for moment, changed in changes]

    def offset(self, moment):
        """Return the offset at a moment of the lane."""
        return self.offsets[many_upto(self.marks, moment)]

    def latest_start(self, goal):
        """Return the greatest moment of the lane with a value that is at most a goal."""
        # Values rise along a lane, so the goals are ascending, too.
        index = many_upto(self.goals, goal)
        start = goal - self.offsets[index]
        start = start - (start - self.rest) % self.step
        if index == len(self.marks):
            return start
        return min(start, self.marks[index] - self.step)
