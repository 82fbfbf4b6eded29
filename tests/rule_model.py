"""Rules as point 5 of the document tells them, moment by moment, to compare the program with."""

import random
from functools import lru_cache
from itertools import product

from dueclocks.rules import Rule

FAR = 10 ** 30
GREAT = 10 ** 31
REACH = 40
SPREAD = ((-FAR - 20, -FAR), (-20, 0), (FAR, FAR + 20))
PLACES = [(), (0,), (-3,), (2,), (-1, 0), (-2, 1), (0, 4), (0, 1, 2), (-4, -1, 3)]


def offset_function(base, changes):
    """Return the function that gives each moment its offset."""
    week = len(base)

    def offset(moment):
        told = [(at, new) for at, new in changes if at <= moment and (moment - at) % week == 0]
        return max(told)[1] if told else base[moment % week]

    return offset


def value_function(base, changes):
    """Return the function that gives each moment its value."""
    offset = offset_function(base, changes)
    return lambda moment: moment + offset(moment)


def near(reach=REACH):
    """Return the moments from 0 outwards, the greater one of two first."""
    return [0] + [at for distance in range(1, reach + 1) for at in (distance, -distance)]


def spots(week, *moments):
    """Return the moments some weeks around 0 and around some moments, from 0 outwards."""
    found = {
        at + step for at in (0, *moments) for step in range(-3 * week - 2, 3 * week + 3)
    }
    return sorted(found, key=lambda at: (abs(at), -at))


def first_of(moments, holds):
    """Return the first one of some moments of which something holds, None if there is none."""
    return next((at for at in moments if holds(at)), None)


def plain_fall(value, moments):
    return first_of(moments, lambda at: value(at) > value(at + 1))


def plain_latest(value, goal, start):
    """Go down from a moment behind to the greatest one with a value at most the goal."""
    while value(start) > goal:
        start -= 1
    return start


def normal_form(value, week, moments, far_left):
    """Return base and changes of a function, whose changes are all among some moments."""
    first = far_left - far_left % week
    base = [value(first + rest) - first - rest for rest in range(week)]
    turning = [at for at in sorted(moments) if value(at) != value(at - week) + week]
    return base, [(at, value(at) - at) for at in turning]


@lru_cache(maxsize=None)
def small_tellings():
    """Return many tuples (base, changes), of weeks of 1 to 3 moments, rising or not."""
    bases = [
        base for size in (1, 2, 3) for base in product(range(-1, 3), repeat=size)
    ]
    changes = [
        tuple(zip(places, offsets))
        for places in PLACES
        for offsets in product(range(-2, 4), repeat=len(places))
    ]
    return [(list(base), list(change)) for base, change in product(bases, changes)]


@lru_cache(maxsize=None)
def small_rules(step=1):
    """Return tuples (rule, value function) of small rules, each step-th one."""
    tellings = [
        pair
        for pair in small_tellings()
        if plain_fall(value_function(*pair), near(12)) is None
    ]
    return [(Rule(*pair), value_function(*pair)) for pair in tellings[::step]]


def pairs_of_rules(step, other_step):
    """Return pairs of such tuples with the same week."""
    return [
        (one, other)
        for one, other in product(small_rules(step), small_rules(other_step))
        if one[0].week == other[0].week
    ]


def rising_offsets(rng, week, least):
    """Return offsets of a week whose values rise, the first value being the least one."""
    values = sorted(rng.randrange(week + 1) for _ in range(week))
    return [least + value - rest for rest, value in enumerate(values)]


def more_changes(rng, base, changes, begin, length, jump):
    """Return such changes and others from begin on: so many values up, and a week for ever."""
    week, value = len(base), value_function(base, changes)
    values = [value(begin - week + step) for step in range(week)]
    for _ in range(length):
        values.append(values[-1] + rng.choice([0, 0, 0, 1, 1, 2, jump]))
    later = rising_offsets(rng, week, 0)
    values += [values[-1] + offset + rest for rest, offset in enumerate(later)]
    return changes + [
        (begin + step, values[week + step] - begin - step)
        for step in range(length + week)
        if values[week + step] != values[step] + week
    ]


def random_tellings(seed, many, weeks=range(1, 13), begins=((-20, 10),), length=8, jump=9):
    """Return tuples (base, changes) with changes in some spans, the same ones for a seed."""
    rng = random.Random(seed)
    found = []
    for _ in range(many):
        base = rising_offsets(rng, rng.choice(list(weeks)), rng.randrange(-9, 9))
        changes = []
        for low, high in begins:
            begin, size = rng.randrange(low, high), rng.randrange(length)
            changes = more_changes(rng, base, changes, begin, size, jump)
        found.append((base, changes))
    return found


def told_rules(tellings):
    """Return tuples (rule, value function) of tuples (base, changes)."""
    return [(Rule(*pair), value_function(*pair)) for pair in tellings]


def random_pairs(seed, many, **named):
    """Return pairs of tuples (rule, value function), with weeks of 1 to 12 moments."""
    found = []
    for week in range(1, 13):
        rules = told_rules(random_tellings(seed + week, 2 * many, weeks=[week], **named))
        found += list(zip(rules[:many], rules[many:]))
    return found


def offsets_of(rule):
    """Return all offsets that there are, ascending."""
    return sorted({*rule.base, *[offset for _, offset in rule.changes]})


def turning_spots(one, other):
    """Return moments near all changes of two rules, and near those that give such moments."""
    turning = [at for rule in (one, other) for at, _ in rule.changes]
    passed = [at - offset for at, _ in other.changes for offset in offsets_of(one)]
    return spots(one.week, *turning, *passed, GREAT, -GREAT)
