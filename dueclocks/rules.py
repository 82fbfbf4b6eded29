"""Rules: a value for each moment, none less than that of an earlier moment."""

from dueclocks.checks import check_amount, check_week, check_weeks, is_behind
from dueclocks.errors import InvalidChange, NotRising
from dueclocks.lanes import lanes_of, telling_changes
from dueclocks.moments import beside, changed_moments, nearest
from dueclocks.work import due, latest, weekly_due


def check_ascending(changes):
    """Raise InvalidChange for the first change that is not behind the one ahead of it."""
    for index in range(len(changes)):
        if not is_behind(changes, index):
            raise InvalidChange(index)


def check_rising(rule):
    """Raise NotRising with the nearest moment whose value is greater than the next one."""
    cuts = [cut for moment in changed_moments(rule) for cut in (moment - 1, moment)]
    falls = [
        moment
        for moment in beside(cuts, rule.week)
        if rule.offset(moment) > rule.offset(moment + 1) + 1
    ]
    if falls:
        raise NotRising(nearest(falls))


def joint_changes(one, other, moments):
    """Return the changes at some moments that give them the values of two rules in turn."""
    return [(moment, other.answer(one.answer(moment)) - moment) for moment in moments]


def passing_moments(one, other):
    """Return the moments at which a rule may turn that gives the values of two in turn."""
    # The first one turns there itself, or gives a moment at which the other one turns.
    passed = [
        start
        for moment in changed_moments(other)
        for start in range(one.latest_start(moment - 1) + 1, one.latest_start(moment) + 1)
    ]
    return sorted(set(changed_moments(one) + passed))


def latest_changes(rule, starts):
    """Return the changes of the latest start for each moment of which it is one of the starts."""
    return [
        (goal, start - goal)
        for start in starts
        for goal in range(rule.answer(start), rule.answer(start + 1))
    ]


def crossing_moments(calendar, amount):
    """Return the moments at which a rule may turn that waits for an amount of work."""
    # A week later work ends a week later, unless of two begins a week apart only one lies
    # behind a changed moment, or of their ends; an end right behind one may be there for both.
    found = []
    for moment in changed_moments(calendar):
        first = latest(calendar, moment, amount) + 1
        last = latest(calendar, moment + 1, amount)
        found.extend(list(range(moment + 1, moment + 1 + calendar.week)))
        found.extend(list(range(first, last + 1 + calendar.week)))
    return sorted(set(found))


class Rule:
    """A value for each moment: a week of offsets, and changes from some moments on."""

    def __init__(self, base, changes):
        check_week(len(base))
        check_ascending(changes)
        self._base = list(base)
        # Idle changes are left out, so that equal rules keep equal lists.
        self._changes = telling_changes(base, changes)
        self._lanes = lanes_of(self._base, self._changes)
        check_rising(self)

    @classmethod
    def promise(cls, calendar, amount):
        """Return the rule that waits until an amount of work is done by a calendar."""
        check_amount(amount)
        base = [weekly_due(calendar.speeds, at, amount) - at for at in range(calendar.week)]
        moments = crossing_moments(calendar, amount)
        return cls(base, [(at, due(calendar, at, amount) - at) for at in moments])

    @classmethod
    def opening(cls, calendar):
        """Return the rule that waits until the next open moment of a calendar."""
        # The amount 1 is done right behind that moment.
        return cls.promise(calendar, 1) >> cls.delay(calendar.week, -1)

    @classmethod
    def delay(cls, week, number):
        """Return the rule that waits so many moments."""
        check_week(week)
        return cls([number for _ in range(week)], [])

    @property
    def week(self):
        """The number of moments of the week."""
        return len(self._base)

    @property
    def base(self):
        """The offsets of the base."""
        return list(self._base)

    @property
    def changes(self):
        """The changes of the normal form, ascending."""
        return list(self._changes)

    def offset(self, moment):
        """Return the offset at a moment."""
        return self._lanes[moment % len(self._lanes)].offset(moment)

    def answer(self, moment):
        """Return the value at a moment."""
        return moment + self.offset(moment)

    def latest_start(self, goal):
        """Return the greatest moment with a value that is at most a goal."""
        return max([lane.latest_start(goal) for lane in self._lanes])

    def __call__(self, moment):
        return self.answer(moment)

    def __contains__(self, x):
        return self.answer(self.latest_start(x)) == x

    def __eq__(self, other):
        return (
            isinstance(other, Rule)
            and self._base == other._base
            and self._changes == other._changes
        )

    def __rshift__(self, other):
        check_weeks(self, other)
        follow = other.base
        base = [
            offset + follow[(rest + offset) % len(follow)]
            for rest, offset in enumerate(self._base)
        ]
        return Rule(base, joint_changes(self, other, passing_moments(self, other)))

    def __or__(self, other):
        check_weeks(self, other)
        base = [max(pair) for pair in zip(self._base, other.base)]
        moments = changed_moments(self, other)
        return Rule(base, [(at, max(self.offset(at), other.offset(at))) for at in moments])

    def __and__(self, other):
        check_weeks(self, other)
        base = [min(pair) for pair in zip(self._base, other.base)]
        moments = changed_moments(self, other)
        return Rule(base, [(at, min(self.offset(at), other.offset(at))) for at in moments])

    def __invert__(self):
        moments = changed_moments(self)
        # A week ahead of all changes gives the base, each moment of one week once.
        first = min(moments, default=0) - 1
        base = [0 for _ in range(self.week)]
        for goal, offset in latest_changes(self, list(range(first - self.week, first))):
            base[goal % len(base)] = offset
        # Other starts than these two, a week apart, are latest for moments a week apart.
        starts = sorted({start for moment in moments for start in (moment - 1, moment)})
        return Rule(base, latest_changes(self, starts))

    def __mul__(self, other):
        check_amount(other)
        whole = Rule.delay(self.week, 0)
        for _ in range(other):
            whole = whole >> self
        return whole

    def __rmul__(self, other):
        return self * other


def in_turn(rule, *others):
    """Return the rule that gives the values of all rules one after the other."""
    whole = rule
    for other in others:
        whole = whole >> other
    return whole


def later_of(rule, *others):
    """Return the rule with the greatest of all values."""
    whole = rule
    for other in others:
        whole = whole | other
    return whole


def earlier_of(rule, *others):
    """Return the rule with the least of all values."""
    whole = rule
    for other in others:
        whole = whole & other
    return whole
