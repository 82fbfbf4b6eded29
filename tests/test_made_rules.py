import unittest
from itertools import product

from dueclocks.calendars import Calendar
from dueclocks.errors import InvalidAmount, InvalidWeek
from dueclocks.rules import Rule
from dueclocks.work import due, latest, next_open
from tests import model
from tests.cases import RuleCase
from tests.rule_model import FAR, GREAT, near


def joined_calendars():
    """Return tuples (calendar, speed function) of calendars with up to twelve changes."""
    found = []
    for step, (speeds, mask) in enumerate(product(
        ([1, 0, 2], [3], [0, 0, 1, 0, 2, 0, 1], [1] + [0] * 11, [0, 3]), (0, 1, 3),
    )):
        whole = Calendar(speeds, [])
        for part in range(4):
            begin = 5 * part - 9 if step % 2 else 3 * part - 4
            changes = [(begin + at, (at + part * step) % 4 if mask == 1 else mask) for at in range(3)]
            one = Calendar([3] * len(speeds) if mask == 0 else speeds, changes)
            whole = whole & one if mask == 0 else whole | one
        found.append((whole, whole.__getitem__))
    return found


class MadeCase(RuleCase):
    def assert_promise(self, calendar, speed, amount, reach):
        rule = Rule.promise(calendar, amount)
        self.assertEqual(rule.week, calendar.week)
        self.assert_tells(rule, lambda at: model.plain_due(speed, at, amount), near(reach))

    def assert_far_promise(self, calendar, amount):
        """The values are those that due tells, near changes and where work ends near them."""
        rule = Rule.promise(calendar, amount)
        # Twelve closed weeks in a row may give many moments the same value.
        reach = (3 + len(calendar.changes)) * calendar.week + 2
        turning = [at for at, _ in calendar.changes]
        turning += [latest(calendar, at, amount) for at in turning]
        turning += [0, GREAT, -GREAT, FAR // 2, -FAR // 2]
        moments = {at + step for at in turning for step in range(-reach, reach)}
        self.assertTrue({at for at, _ in rule.changes} <= moments)
        self.assert_tells(rule, lambda at: due(calendar, at, amount), sorted(moments))


class PromiseTest(MadeCase):
    def test_small_calendars(self):
        for calendar, speed in model.small_calendars(11):
            for amount in range(9):
                self.assert_promise(calendar, speed, amount, 45)

    def test_joined_calendars(self):
        many = []
        for calendar, speed in joined_calendars():
            many.append(len(calendar.changes))
            self.assertLessEqual(many[-1], 12)
            for amount in (0, 1, 2, 3, 7, 12):
                self.assert_promise(calendar, speed, amount, 300)
        self.assertGreaterEqual(len([one for one in many if one > 3]), 8)

    def test_by_position_and_by_name(self):
        desk = Calendar([1, 1, 0], [(4, 0)])
        rule = Rule([2, 3, 3], [(2, 5), (3, 4), (4, 4), (5, 3), (6, 2), (7, 3)])
        self.assert_answers(rule, Rule.promise, desk, 2)
        self.assertEqual((desk.speeds, desk.changes), ([1, 1, 0], [(4, 0)]))

    def test_amount_0_is_no_wait(self):
        for calendar, _ in model.small_calendars(211):
            self.assertTrue(Rule.promise(calendar, 0) == Rule.delay(calendar.week, 0))

    def test_amount_1(self):
        rule = Rule.promise(Calendar([0, 3, 0, 0], [(1, 0), (2, 1)]), 1)
        self.assertEqual(rule.base, [2, 1, 4, 3])
        self.assertEqual([rule(at) for at in range(-3, 7)], [-2, 3, 3, 3, 3, 3, 6, 6, 6, 10])

    def test_about_whole_weeks_of_work(self):
        for speeds in ([1], [3], [1, 0, 2], [0, 3], [0, 1, 1, 0, 3]):
            plain, total = Calendar(speeds, []), sum(speeds)
            week = Rule.delay(len(speeds), len(speeds))
            for amount in range(1, 2 * total + 2):
                rule = Rule.promise(plain, amount)
                self.assert_promise(plain, plain.__getitem__, amount, 20)
                self.assertTrue(Rule.promise(plain, amount + total) == rule >> week)
                far = Rule.delay(len(speeds), FAR * len(speeds))
                self.assertTrue(Rule.promise(plain, amount + total * FAR) == rule >> far)

    def test_great_amounts_and_far_changes(self):
        for speeds, changes in (
            ([0, 3, 0, 0, 2, 1, 0], [(-FAR, 3), (5, 0), (GREAT + 1, 2)]),
            ([1, 1, 0], [(-FAR, 0), (0, 3), (FAR, 0)]),
            ([1], [(-1, 0), (0, 0), (1, 0)]),
            ([0] * 11 + [3], [(-1, 0), (11, 0), (23, 0)]),
            ([2, 0], [(FAR, 0), (FAR + 2, 0), (FAR + 4, 0)]),
        ):
            calendar = Calendar(speeds, changes)
            for amount in (0, 1, 2, 5, FAR - 1, FAR, FAR + 1, GREAT - 1, GREAT):
                self.assert_far_promise(calendar, amount)

    def test_joined_calendars_and_great_amounts(self):
        for calendar, _ in joined_calendars():
            for amount in (FAR, FAR + 1, GREAT):
                self.assert_far_promise(calendar, amount)
                self.assert_far_promise(calendar.moved(FAR), amount)
                self.assert_far_promise(calendar.moved(-FAR), amount)

    def test_far_calendars_as_near_ones(self):
        for calendar, speed in model.small_calendars(307):
            for number, amount in product((-FAR, FAR, FAR + 1), (1, 4)):
                rule = Rule.promise(calendar.moved(number), amount)
                for moment in range(-25, 20):
                    end = model.plain_due(speed, moment, amount)
                    self.assertEqual(rule(moment + number), end + number)

    def test_negative_amounts(self):
        for amount in (-1, -2, -FAR, -GREAT):
            for changes in ([], [(0, 0)]):
                calendar = Calendar([1, 0], changes)
                self.assert_errors(InvalidAmount, amount, Rule.promise, calendar, amount)


class OpeningTest(MadeCase):
    def test_small_calendars(self):
        for calendar, speed in model.small_calendars(3):
            rule = Rule.opening(calendar)
            self.assertEqual(rule.week, calendar.week)
            self.assert_tells(rule, lambda at: model.plain_next_open(speed, at), near(30))

    def test_joined_calendars(self):
        for calendar, speed in joined_calendars():
            for number in (0, -FAR, FAR):
                rule = Rule.opening(calendar.moved(number))
                value = lambda at: model.plain_next_open(speed, at - number) + number
                moments = [at + number for at in near(200)] + [GREAT, -GREAT]
                self.assert_tells(rule, value, moments)

    def test_far_changes(self):
        calendar = Calendar([0, 0, 2, 0], [(-FAR, 1), (2, 0), (FAR + 2, 0)])
        self.assertEqual((FAR + 2) % 4, 2)
        rule = Rule.opening(calendar)
        moments = [at + step for at in (-FAR, 0, FAR) for step in range(-9, 10)]
        self.assert_tells(rule, lambda at: next_open(calendar, at), moments)

    def test_by_position_and_by_name(self):
        desk = Calendar([1, 1, 0], [(4, 0)])
        self.assert_answers(Rule([0, 0, 1], [(4, 2), (5, 1), (7, 0)]), Rule.opening, desk)
        self.assertEqual((desk.speeds, desk.changes), ([1, 1, 0], [(4, 0)]))


class DelayTest(MadeCase):
    def test_weeks_of_1_to_12(self):
        for week, number in product(range(1, 13), (-GREAT, -7, -1, 0, 1, 5, FAR, GREAT)):
            rule = Rule.delay(week, number)
            self.assertEqual((rule.week, rule.base, rule.changes), (week, [number] * week, []))
            for moment in (-GREAT, -3, 0, 7, FAR):
                self.assertEqual(rule(moment), moment + number)

    def test_by_position_and_by_name(self):
        self.assert_answers(Rule([4, 4], []), Rule.delay, 2, 4)

    def test_other_weeks(self):
        for week in (0, -1, 13, 14, FAR, -FAR, GREAT, -GREAT):
            for number in (0, -3, FAR):
                self.assert_errors(InvalidWeek, week, Rule.delay, week, number)


if __name__ == "__main__":
    unittest.main()
