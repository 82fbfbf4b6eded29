import random
import unittest
from itertools import product

from dueclocks.calendars import Calendar
from dueclocks.errors import Unreadable
from dueclocks.readings import read_calendar, read_rule
from dueclocks.rules import Rule
from dueclocks.texts import show_calendar, show_rule
from tests import model
from tests.cases import RuleCase
from tests.rule_model import FAR, GREAT, SPREAD, random_tellings, small_rules, told_rules

# The greatest number of 40 digits.
LONG = 10 ** 40 - 1


def text_of(numbers, changes):
    """Return the text of numbers of a week and of changes."""
    told = " ".join("%d:%d" % change for change in changes) if changes else "-"
    return " ".join(map(str, numbers)) + " / " + told


class TextCase(RuleCase):
    def assert_calendar(self, text, calendar):
        """A calendar has this text, which leads back to it."""
        self.assert_answers(text, show_calendar, calendar)
        self.assert_answers(calendar, read_calendar, text)

    def assert_rule(self, text, rule):
        """A rule has this text, which leads back to it."""
        self.assert_answers(text, show_rule, rule)
        self.assert_answers(rule, read_rule, text)

    def assert_unreadable(self, read, text):
        self.assert_errors(Unreadable, text, read, text)

    def assert_both_unreadable(self, text):
        self.assert_unreadable(read_calendar, text)
        self.assert_unreadable(read_rule, text)


class ShowingTest(TextCase):
    def test_small_calendars(self):
        for calendar, speed in model.small_calendars(5):
            speeds = calendar.speeds
            changes = [(at, speed(at)) for at in range(-9, 9) if speed(at) != speeds[at % len(speeds)]]
            self.assert_calendar(text_of(speeds, changes), calendar)

    def test_small_rules(self):
        for rule, value in small_rules(5):
            turning = [at for at in range(-15, 15) if value(at) != value(at - rule.week) + rule.week]
            base = [value(rest - 12 * rule.week) - rest + 12 * rule.week for rest in range(rule.week)]
            self.assert_rule(text_of(base, [(at, value(at) - at) for at in turning]), rule)

    def test_without_changes(self):
        self.assert_calendar("1 / -", Calendar([1], []))
        self.assert_calendar("0 3 0 2 / -", Calendar([0, 3, 0, 2], []))
        self.assert_calendar("1 2 3 0 1 2 3 0 1 2 3 0 / -", Calendar([1, 2, 3, 0] * 3, []))
        self.assert_rule("0 / -", Rule([0], []))
        self.assert_rule("-5 -5 / -", Rule.delay(2, -5))
        self.assert_rule("11 10 9 8 7 6 5 4 3 2 1 0 / -", Rule(list(range(12))[::-1], []))

    def test_with_changes(self):
        self.assert_calendar("1 1 0 / -3:2 4:0", Calendar([1, 1, 0], [(-3, 2), (4, 0)]))
        self.assert_calendar("2 / -1:0 0:1 1:3", Calendar([2], [(-1, 0), (0, 1), (1, 3)]))
        self.assert_rule("0 0 1 / 4:2 7:0", Rule([0, 0, 1], [(4, 2), (7, 0)]))
        self.assert_rule("0 / -1:-1 0:0", Rule([0], [(-1, -1), (0, 0)]))

    def test_idle_changes_are_not_told(self):
        self.assert_calendar("1 1 0 / 4:0", Calendar([1, 1, 0], [(4, 0), (7, 1)]))
        self.assert_calendar("1 1 0 / -", Calendar([1, 1, 0], [(4, 1), (5, 0), (FAR, 1)]))
        self.assert_rule("0 0 1 / 4:2 7:0", Rule([0, 0, 1], [(3, 0), (4, 2), (5, 1), (6, 0), (7, 0)]))
        self.assert_rule("2 / -", Rule([2], [(-FAR, 2), (0, 2), (GREAT, 2)]))

    def test_numbers_of_40_digits(self):
        nines = "9" * 40
        self.assert_calendar(f"3 / -{nines}:0 {nines}:1", Calendar([3], [(-LONG, 0), (LONG, 1)]))
        self.assert_rule(f"{nines} / -", Rule([LONG], []))
        self.assert_rule(f"-{nines} -{nines} / -", Rule([-LONG, -LONG], []))
        self.assert_rule(f"-{nines} / -{nines}:0 {nines}:{nines}", Rule([-LONG], [(-LONG, 0), (LONG, LONG)]))
        self.assert_calendar(f"0 1 / {FAR}:2 {GREAT}:3", Calendar([0, 1], [(FAR, 2), (GREAT, 3)]))

    def test_joined_calendars(self):
        for (one, _), (other, _) in zip(model.small_calendars(61), model.small_calendars(83)):
            if one.week == other.week:
                for number in (0, FAR, -GREAT):
                    whole = one.moved(number) | other
                    self.assert_calendar(text_of(whole.speeds, whole.changes), whole)

    def test_rules_put_in_turn_also_far_apart(self):
        rules = told_rules(random_tellings(51, 40, length=4) + random_tellings(52, 30, begins=SPREAD, length=3))
        for (one, _), (other, _) in product(rules, rules):
            if one.week == other.week:
                for whole in (one >> other, one | other, ~one, one * 2):
                    self.assert_rule(text_of(whole.base, whole.changes), whole)

    def test_promises(self):
        for calendar, _ in model.small_calendars(203):
            for amount in (0, 3, FAR):
                rule = Rule.promise(calendar, amount)
                self.assert_rule(text_of(rule.base, rule.changes), rule)

    def test_two_texts_are_equal_exactly_if_the_calendars_or_the_rules_are(self):
        calendars = [one for one, _ in model.small_calendars(23)]
        for one, other in product(calendars, calendars[::7]):
            self.assertIs(show_calendar(one) == show_calendar(other), one == other)
        rules = [one for one, _ in small_rules(43)]
        for one, other in product(rules, rules[::7]):
            self.assertIs(show_rule(one) == show_rule(other), one == other)


class UnreadableTest(TextCase):
    def test_all_short_texts_of_calendars(self):
        # Of up to seven signs there are those of two weeks and of one change.
        told = {
            text_of(speeds, changes)
            for size in (1, 2)
            for speeds in product(range(4), repeat=size)
            for changes in [[]] + [[change] for change in product(range(-9, 10), range(4))]
            if any(speeds) and all(speed != speeds[at % size] for at, speed in changes)
        }
        self.assert_exactly(told, read_calendar, "023-:/ ", 6)
        self.assert_exactly(told, read_calendar, "01:/ ", 7)

    def test_all_short_texts_of_rules(self):
        told = {
            text_of(base, changes)
            for size in (1, 2)
            for base in product(range(-9, 100), repeat=size)
            for changes in [[]] + [[change] for change in product(range(-9, 10), range(-9, 10))]
            if len(text_of(base, changes)) < 8 and self.is_told(base, changes)
        }
        self.assert_exactly(told, read_rule, "012-:/ ", 6)
        self.assert_exactly(told, read_rule, "01:/ ", 7)

    def is_told(self, base, changes):
        """Tell whether these are the base and the at most one change of a rule."""
        whole = [base[at % len(base)] + at for at in range(9)]
        for at, offset in changes:
            if offset == base[at % len(base)] or at + offset < at - 1 + base[(at - 1) % len(base)]:
                return False
            # Behind the change the next moment is the one that may have less.
            following = base[(at + 1) % len(base)] if len(base) > 1 else offset
            if at + offset > at + 1 + following:
                return False
        return whole == sorted(whole)

    def assert_exactly(self, told, read, signs, most):
        """Of all texts of up to so many signs, exactly those that are told can be read."""
        found = set()
        for size in range(most + 1):
            for parts in product(signs, repeat=size):
                text = "".join(parts)
                try:
                    read(text)
                    found.add(text)
                except Unreadable as error:
                    self.assertIs(error.value, text)
        self.assertEqual(found, {text for text in told if len(text) <= most and set(text) <= set(signs)})
        self.assertGreaterEqual(len(found), 2)

    def test_no_text_at_all_and_no_numbers(self):
        for text in ("", " ", "/", " / ", " / -", "-", "- / -", "1", "1 1", "1 /", "1 / ", "1 /-", "1/ -",
                     "1/-", "/ -", "a / -", "1 / a", "1 - / -", "1 / - -", "none", "1 / --", "-- / -"):
            self.assert_both_unreadable(text)

    def test_blanks(self):
        for read, text in (
            (read_calendar, "1 1 0 / 4:0 6:2"), (read_rule, "0 0 1 / 4:2 7:0"), (read_rule, "-5 -5 / -"),
        ):
            self.assertIsNotNone(read(text))
            for at in range(len(text) + 1):
                self.assert_unreadable(read, text[:at] + " " + text[at:])
            for at, sign in enumerate(text):
                if sign == " ":
                    self.assert_unreadable(read, text[:at] + text[at + 1:])

    def test_each_sign_taken_away_doubled_or_another_one(self):
        # Whatever is read is shown as the very text that was read.
        rng, read_all = random.Random(5), 0
        for read, show, text in (
            (read_calendar, show_calendar, "1 1 0 / -12:0 4:0 6:2"), (read_calendar, show_calendar, "3 0 / -"),
            (read_rule, show_rule, "0 0 1 / -8:1 4:2 7:0"), (read_rule, show_rule, "-5 -5 / 7:-4"),
        ):
            others = [text[:at] + sign + text[at + 1:] for at in range(len(text)) for sign in " 0123456789-:/+ax._"]
            others += [text[:at] + text[at + many:] for at in range(len(text)) for many in (1, 2)]
            others += [text[:at] + text[at] + text[at:] for at in range(len(text))]
            others += ["".join(rng.sample(text, len(text))) for _ in range(200)]
            for other in others:
                try:
                    found = read(other)
                except Unreadable as error:
                    self.assertIs(error.value, other)
                else:
                    read_all += 1
                    self.assertEqual(show(found), other)
        self.assertGreater(read_all, 100)

    def test_slashes(self):
        for text in ("1 1 -", "1 1 4:0", "1 / / -", "1 / - / -", "1 // -", "/ 1 / -", "1 / - /", "1 / 2 / -",
                     "1 / 2:0 / -", "1 / 2:0 / 3:0", "1:0 / -", "2:0 / 1", "- / 1", "1 \\ -", "1 | -"):
            self.assert_both_unreadable(text)

    def test_integers_in_another_writing(self):
        for number in ("-0", "00", "01", "-01", "+1", "1.0", "1e1", "0x1", "1_0", "--1", "1-", "-", "x", "one",
                       "", "'1'", "(1)", "1,", "0b1", "-+1", "1" + "0" * 40, "-1" + "0" * 40, "0" * 41):
            for text in (f"{number} / -", f"1 {number} / -", f"{number} 1 / -"):
                self.assert_both_unreadable(text)
            for text in (f"1 1 / {number}:2", f"1 1 / 2:{number}", f"1 1 / {number}:{number}",
                         f"1 1 / 2:2 {number}:3", f"1 1 / {number} ", f"1 1 / 2:2 {number}"):
                self.assert_both_unreadable(text)

    def test_41_digits(self):
        for digits in ("1" + "0" * 40, "9" * 41, "9" * 4000, "1" * 4400):
            for number in (digits, "-" + digits):
                self.assert_both_unreadable(f"1 / {number}:2")
                self.assert_unreadable(read_rule, f"{number} / -")
                self.assert_unreadable(read_rule, f"1 / 2:{number}")
        self.assertEqual(read_rule("1" + "0" * 39 + " / -"), Rule([10 ** 39], []))

    def test_changes_in_another_writing(self):
        for change in ("4", "4:", ":0", ":", "4:0:0", "4::0", "4:0:", ":4:0", "4 :0", "4: 0", "4;0", "(4, 0)", "4:-",
                       "-:0", "4,0", "4:0,", "4:0-", "4-0"):
            self.assert_both_unreadable(f"1 1 / {change}")
            self.assert_both_unreadable(f"1 1 / 2:2 {change}")
            self.assert_both_unreadable(f"1 1 / {change} 20:2")
        for text in ("1 1 / - 4:0", "1 1 / 4:0 -", "1 1 / -:-"):
            self.assert_both_unreadable(text)

    def test_changes_that_are_idle_do_not_ascend_or_stand_twice(self):
        for text in ("1 1 / 4:1", "1 1 / 4:2 5:1", "1 1 / 3:1 4:2", "0 3 / -4:0", "0 3 / -3:3",
                     "1 1 / 4:0 4:0", "1 1 / 4:0 4:2", "1 1 / 5:0 4:0", "1 1 / 4:0 -4:0", f"1 / {FAR}:0 {FAR}:0"):
            self.assert_unreadable(read_calendar, text)
        for text in ("1 1 / 4:1", "1 1 / 4:2 5:1", "1 1 / 4:2 6:2", "0 / -3:1 0:1", "1 1 / 4:2 4:2", "1 1 / 4:2 4:3",
                     "1 1 / 5:2 4:2", "1 1 / 4:2 -4:2", f"1 / {FAR}:2 {FAR}:2", f"1 / {FAR}:2 {GREAT}:2"):
            self.assert_unreadable(read_rule, text)

    def test_speeds(self):
        for text in ("4 / -", "1 4 / -", "-1 1 / -", "1 -1 / -", f"1 {FAR} / -", "1 1 / 4:4", "1 1 / 4:-1",
                     "1 1 / 2:0 4:5", f"1 / 0:{FAR}", "10 / -", "33 / -"):
            self.assert_unreadable(read_calendar, text)
        for text in ("0 / -", "0 0 / -", "0 / 4:1", "0 0 0 / 4:1 5:2", " ".join("0" * 12) + " / -"):
            self.assert_unreadable(read_calendar, text)

    def test_weeks_of_0_and_of_13(self):
        for many in (13, 14, 20, 400, 1998):
            self.assert_both_unreadable(" ".join("1" * many) + " / -")
            self.assert_both_unreadable(" ".join("1" * many) + " / 4:2")
        for text in (" / -", " / 4:2", "/ 4:2", "4:2"):
            self.assert_both_unreadable(text)

    def test_rules_that_fall(self):
        for text in ("2 0 / -", "0 2 / -", "0 / 3:-2", "0 0 / 3:-2 4:-1", f"0 / {FAR}:-2", f"0 0 / -{FAR}:2",
                     "0 / 0:5 1:0", f"5 {FAR} / -", "0 0 0 / 3:3"):
            self.assert_unreadable(read_rule, text)

    def test_one_is_not_the_other(self):
        self.assert_unreadable(read_calendar, "5 5 / -")
        self.assert_unreadable(read_calendar, "0 0 1 / 4:2 5:0 6:-1")
        self.assert_unreadable(read_rule, "0 3 / -")
        self.assert_unreadable(read_rule, "1 1 0 / 4:3")
        self.assertEqual(read_calendar("0 3 / -"), Calendar([0, 3], []))
        self.assertEqual(read_rule("5 5 / -"), Rule([5, 5], []))

    def test_long_texts(self):
        for text in ("1 " * 1990 + "/ -", "1 / " + "4:2 " * 900, "1 / " + "4:2 " * 900 + "4:2", "1" * 4000,
                     ":" * 4000, "/" * 4000, " / " * 1300, "-" * 4000, "~" * 4000, " " * 4000):
            self.assert_both_unreadable(text)
        whole = "1 1 / " + " ".join(f"{at}:0" for at in range(10, 600))
        self.assertLess(len(whole), 4000)
        self.assert_unreadable(read_rule, whole)


if __name__ == "__main__":
    unittest.main()
