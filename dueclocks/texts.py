"""Texts of calendars and rules."""


def shown(numbers, changes):
    """Return the text of the numbers of a week and of changes."""
    weekly = " ".join([str(number) for number in numbers])
    changed = " ".join([f"{moment}:{number}" for moment, number in changes])
    return f"{weekly} / {changed}" if changes else f"{weekly} / -"


def show_calendar(calendar):
    """Return the text of a calendar."""
    return shown(calendar.speeds, calendar.changes)


def show_rule(rule):
    """Return the text of a rule."""
    return shown(rule.base, rule.changes)
