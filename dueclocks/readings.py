"""Calendars and rules that are read from their texts."""

from dueclocks.calendars import Calendar
from dueclocks.errors import DueError, Unreadable
from dueclocks.rules import Rule
from dueclocks.texts import show_calendar, show_rule

DIGITS = "0123456789"
MOST_DIGITS = 40


def number_of(word):
    """Return the number that a word writes, perhaps with zeros ahead; raise Unreadable if none."""
    digits = word[1:] if word.startswith("-") else word
    if not 1 <= len(digits) <= MOST_DIGITS or not all([sign in DIGITS for sign in digits]):
        raise Unreadable(word)
    return int(word)


def numbers_of(text, mark):
    """Return the numbers that stand in a text with a mark between each two."""
    return [number_of(word) for word in text.split(mark)]


def change_of(word):
    """Return the tuple of the two numbers of a change; raise Unreadable if there are not two."""
    numbers = numbers_of(word, ":")
    if len(numbers) != 2:
        raise Unreadable(word)
    return numbers[0], numbers[1]


def parts_of(text):
    """Return the tuple of the numbers of a week and of the changes that a text tells."""
    weekly, _, changed = text.partition(" / ")
    if changed == "-":
        return numbers_of(weekly, " "), []
    return numbers_of(weekly, " "), [change_of(word) for word in changed.split(" ")]


def check_own(text, own):
    """Raise Unreadable if a text tells a calendar or a rule in another way than its own text."""
    if text != own:
        raise Unreadable(text)


def read_calendar(text):
    """Return the calendar with a text."""
    try:
        speeds, changes = parts_of(text)
        calendar = Calendar(speeds, changes)
    except DueError:
        raise Unreadable(text) from None
    check_own(text, show_calendar(calendar))
    return calendar


def read_rule(text):
    """Return the rule with a text."""
    try:
        base, changes = parts_of(text)
        rule = Rule(base, changes)
    except DueError:
        raise Unreadable(text) from None
    check_own(text, show_rule(rule))
    return rule
