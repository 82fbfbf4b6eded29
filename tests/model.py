"""Counts that go moment by moment, to compare the program with, and small calendars."""

from itertools import product

from dueclocks.calendars import Calendar

PLACES = [(), (-3,), (0,), (2,), (-2, 1), (-1, 0), (0, 1), (-1, 0, 1), (0, 2, 5)]
SPEEDS = {
    0: [()],
    1: [(0,), (1,), (2,), (3,)],
    2: [(0, 0), (0, 3), (3, 0), (1, 2)],
    3: [(0, 0, 0), (3, 3, 3), (0, 2, 0), (2, 0, 1)],
}


def small_weeks():
    """Return all weeks of 1 to 3 moments with the speeds 0 to 3, not all of them 0."""
    weeks = [week for size in (1, 2, 3) for week in product(range(4), repeat=size)]
    return [list(week) for week in weeks if any(week)]


def small_changes():
    """Return lists of at most 3 changes near 0."""
    return [
        list(zip(places, speeds))
        for places in PLACES
        for speeds in SPEEDS[len(places)]
    ]


def small_calendars(step=1):
    """Return tuples (calendar, speed function) of small calendars, each step-th one."""
    pairs = list(product(small_weeks(), small_changes()))
    return [(Calendar(*pair), speed_function(*pair)) for pair in pairs[::step]]


def speed_function(speeds, changes):
    """Return the function that gives each moment its speed."""
    given = dict(changes)

    def speed(moment):
        return given[moment] if moment in given else speeds[moment % len(speeds)]

    return speed


def plain_work(speed, begin, end):
    return sum(speed(moment) for moment in range(begin, end))


def plain_due(speed, moment, amount):
    end = moment
    while amount > 0:
        amount -= speed(end)
        end += 1
    return end


def plain_latest(speed, moment, amount):
    begin = moment
    while amount > 0:
        begin -= 1
        amount -= speed(begin)
    return begin


def plain_next_open(speed, moment):
    while speed(moment) == 0:
        moment += 1
    return moment


def plain_last_open(speed, moment):
    while speed(moment) == 0:
        moment -= 1
    return moment


def plain_count_open(speed, begin, end):
    return len([moment for moment in range(begin, end) if speed(moment)])


def plain_nth_open(speed, moment, index):
    moment = plain_next_open(speed, moment)
    for _ in range(index):
        moment = plain_next_open(speed, moment + 1)
    return moment


def plain_first_unlike(speed, other, limit):
    """Go from 0 outwards, the greater moment of two first, up to a limit."""
    for distance in range(limit):
        for moment in (distance, -distance):
            if speed(moment) != other(moment):
                return moment
    return None
