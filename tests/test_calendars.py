import unittest
from itertools import product

from dueclocks.calendars import Calendar
from dueclocks.errors import (
    DueError, InvalidChange, InvalidSpeed, InvalidWeek, NeverOpen, UnlikeWeeks,
)
from tests.model import small_calendars, small_changes, small_weeks, speed_function

FAR = 10 ** 30


class CalendarCase(unittest.TestCase):
    def assert_error(self, kind, value, call, *args, **named):
        """The call raises this very class, with this value, itself of the same kind."""
        with self.assertRaises(DueError) as context:
            call(*args, **named)
        self.assertIs(type(context.exception), kind)
        self.assertEqual(context.exception.value, value)
        self.assertIs(type(context.exception.value), type(value))


class ConstructingTest(CalendarCase):
    def assert_calendar_error(self, kind, value, speeds, changes):
        self.assert_error(kind, value, Calendar, speeds, changes)
        self.assert_error(kind, value, Calendar, changes=changes, speeds=speeds)

    def test_by_position_and_by_name(self):
        for calendar in (
            Calendar([1, 0, 2], [(-1, 3), (5, 0)]),
            Calendar([1, 0, 2], changes=[(-1, 3), (5, 0)]),
            Calendar(changes=[(-1, 3), (5, 0)], speeds=[1, 0, 2]),
        ):
            self.assertEqual(calendar.week, 3)
            self.assertEqual(calendar.speeds, [1, 0, 2])
            self.assertEqual(calendar.changes, [(-1, 3), (5, 0)])

    def test_weeks_of_1_to_12_speeds(self):
        for number in range(1, 13):
            calendar = Calendar([1] * number, [])
            self.assertEqual(calendar.week, number)
            self.assertEqual(calendar.speeds, [1] * number)
            self.assertEqual(calendar.changes, [])

    def test_weeks_that_are_too_short_or_too_long(self):
        for number in (0, 13, 14, 20):
            self.assert_calendar_error(InvalidWeek, number, [1] * number, [])

    def test_speeds_out_of_bounds(self):
        for wrong in (-1, 4, 10 ** 31, -10 ** 31):
            for number in (1, 2, 12):
                for index in {0, number // 2, number - 1}:
                    speeds = [1] * number
                    speeds[index] = wrong
                    self.assert_calendar_error(InvalidSpeed, index, speeds, [])

    def test_the_first_wrong_speed_counts(self):
        self.assert_calendar_error(InvalidSpeed, 1, [0, 4, -1], [])
        self.assert_calendar_error(InvalidSpeed, 0, [-1, 1, 4], [])

    def test_speeds_at_their_bounds(self):
        self.assertEqual(Calendar([0, 3], []).speeds, [0, 3])
        self.assertEqual(Calendar([3], [(0, 0), (1, 3)]).changes, [(0, 0)])

    def test_never_open(self):
        for number in (1, 2, 12):
            self.assert_calendar_error(NeverOpen, 0, [0] * number, [])
        self.assert_calendar_error(NeverOpen, 0, [0, 0], [(0, 1), (1, 1)])

    def test_one_open_moment_is_enough(self):
        for index in range(4):
            speeds = [0] * 4
            speeds[index] = 1
            self.assertEqual(Calendar(speeds, []).speeds, speeds)

    def test_changes_with_wrong_speeds(self):
        for wrong in (-1, 4, 10 ** 31, -10 ** 31):
            for index in range(3):
                changes = [(0, 1), (1, 2), (2, 3)]
                changes[index] = (index, wrong)
                self.assert_calendar_error(InvalidChange, index, [1, 1], changes)

    def test_changes_that_do_not_ascend(self):
        for changes, index in (
            ([(3, 0), (3, 0)], 1),
            ([(3, 0), (2, 0)], 1),
            ([(-1, 0), (3, 0), (3, 1)], 2),
            ([(-1, 0), (3, 0), (-1, 0)], 2),
            ([(FAR, 0), (FAR - 1, 0)], 1),
            ([(0, 0), (-FAR, 0), (-FAR, 0)], 1),
        ):
            self.assert_calendar_error(InvalidChange, index, [1, 1], changes)

    def test_idle_changes_are_checked_too(self):
        self.assert_calendar_error(InvalidChange, 1, [1], [(3, 1), (3, 0)])
        self.assert_calendar_error(InvalidChange, 1, [1], [(3, 1), (2, 1)])

    def test_the_first_wrong_change_counts(self):
        self.assert_calendar_error(InvalidChange, 1, [1], [(0, 0), (0, 1), (1, 4)])
        self.assert_calendar_error(InvalidChange, 0, [1], [(0, 4), (0, 1), (-1, 1)])

    def test_several_wrong_things_at_once(self):
        bad_changes = [(0, 9), (0, 9)]
        self.assert_calendar_error(InvalidWeek, 0, [], bad_changes)
        self.assert_calendar_error(InvalidWeek, 13, [0] * 12 + [4], bad_changes)
        self.assert_calendar_error(InvalidWeek, 13, [0] * 13, [])
        self.assert_calendar_error(InvalidSpeed, 2, [0, 0, -1], bad_changes)
        self.assert_calendar_error(NeverOpen, 0, [0, 0], bad_changes)
        self.assert_calendar_error(InvalidChange, 0, [0, 1], bad_changes)

    def test_idle_changes_are_left_out(self):
        calendar = Calendar([1, 2, 0], [(-1, 0), (0, 1), (1, 0), (4, 2), (5, 1), (FAR, 1)])
        self.assertEqual(FAR % 3, 1)
        self.assertEqual(calendar.changes, [(1, 0), (5, 1), (FAR, 1)])
        self.assertEqual(Calendar([1, 2, 0], [(-1, 0), (0, 1), (4, 2)]).changes, [])

    def test_passed_lists_stay_and_are_not_kept(self):
        speeds, changes = [1, 1, 0], [(4, 0), (7, 1)]
        calendar = Calendar(speeds, changes)
        self.assertEqual((speeds, changes), ([1, 1, 0], [(4, 0), (7, 1)]))
        speeds[0] = 3
        changes[0] = (3, 2)
        changes.append((9, 2))
        self.assert_is_desk(calendar)

    def test_lists_passed_to_a_call_that_fails_stay(self):
        speeds, changes = [1, 1, 0], [(4, 0), (4, 1)]
        self.assert_calendar_error(InvalidChange, 1, speeds, changes)
        self.assertEqual((speeds, changes), ([1, 1, 0], [(4, 0), (4, 1)]))

    def test_returned_lists_are_new(self):
        calendar = Calendar([1, 1, 0], [(4, 0)])
        calendar.speeds[0] = 3
        calendar.speeds.append(2)
        calendar.changes[0] = (3, 2)
        calendar.changes.append((9, 2))
        self.assert_is_desk(calendar)
        self.assertIsNot(calendar.speeds, calendar.speeds)
        self.assertIsNot(calendar.changes, calendar.changes)

    def assert_is_desk(self, calendar):
        self.assertEqual(calendar.week, 3)
        self.assertEqual(calendar.speeds, [1, 1, 0])
        self.assertEqual(calendar.changes, [(4, 0)])
        self.assertEqual([calendar[at] for at in range(-3, 10)], [1, 1, 0, 1, 1, 0, 1, 0, 0] + [1, 1, 0, 1])
        self.assertTrue(calendar == Calendar([1, 1, 0], [(4, 0)]))

    def test_kinds_of_properties(self):
        calendar = Calendar([1, 1, 0], [(4, 0)])
        self.assertIs(type(calendar.week), int)
        self.assertIs(type(calendar.speeds), list)
        self.assertIs(type(calendar.changes), list)
        self.assertIs(type(calendar.changes[0]), tuple)

    def test_a_returned_list_may_be_passed_on(self):
        calendar = Calendar([1, 1, 0], [(4, 0), (8, 3)])
        self.assertTrue(Calendar(calendar.speeds, calendar.changes) == calendar)


class SpeedsTest(CalendarCase):
    def test_speeds_and_open_moments_of_small_calendars(self):
        for calendar, speed in small_calendars():
            for moment in range(-8, 9):
                self.assertEqual(calendar[moment], speed(moment))
                self.assertIs(moment in calendar, speed(moment) != 0)
                self.assertIs(moment not in calendar, speed(moment) == 0)

    def test_at_beside_and_a_week_from_a_change(self):
        calendar = Calendar([1, 2, 0, 3], [(-3, 0), (6, 1)])
        around = {-4: 1, -3: 0, -2: 0, -7: 2, 1: 2, 5: 2, 6: 1, 7: 3, 2: 0, 10: 0}
        for moment, speed in around.items():
            self.assertEqual(calendar[moment], speed)
            self.assertIs(moment in calendar, speed > 0)

    def test_far_moments(self):
        calendar = Calendar([0, 1, 2, 0, 3, 1, 0], [(-FAR, 3), (FAR, 0), (FAR + 1, 3)])
        for moment in (FAR - 1, FAR + 2, FAR + 7, -FAR - 1, -FAR + 1, -FAR - 7, 10 ** 31):
            self.assertEqual(calendar[moment], [0, 1, 2, 0, 3, 1, 0][moment % 7])
        self.assertEqual([calendar[-FAR], calendar[FAR], calendar[FAR + 1]], [3, 0, 3])
        self.assertEqual([-FAR in calendar, FAR in calendar], [True, False])


class JoiningTest(CalendarCase):
    def assert_joined(self, joined, speed):
        """A joined calendar has these speeds, and keeps the one form of point 7."""
        week = [speed(moment) for moment in range(300, 300 + joined.week)]
        self.assertEqual(300 % joined.week, 0)
        self.assertEqual(joined.speeds, week)
        changed = [at for at in range(-20, 20) if speed(at) != week[at % len(week)]]
        self.assertEqual(joined.changes, [(at, speed(at)) for at in changed])
        for moment in range(-20, 20):
            self.assertEqual(joined[moment], speed(moment))

    def test_small_calendars(self):
        some = small_calendars(23)
        pairs = [(one, other) for one, other in product(some, some[::3]) if one[0].week == other[0].week]
        self.assertGreater(len(pairs), 500)
        for (one, speed), (other, other_speed) in pairs:
            self.assert_joined(one | other, lambda at: max(speed(at), other_speed(at)))
            together = [min(pair) for pair in zip(one.speeds, other.speeds)]
            if any(together):
                self.assert_joined(one & other, lambda at: min(speed(at), other_speed(at)))
            else:
                self.assert_error(NeverOpen, 0, lambda: one & other)

    def test_changes_at_the_same_and_at_other_moments(self):
        one = Calendar([1, 2], [(0, 3), (2, 0), (5, 0)])
        other = Calendar([2, 1], [(0, 1), (3, 3), (FAR, 0)])
        self.assertEqual((one | other).speeds, [2, 2])
        self.assertEqual((one | other).changes, [(0, 3), (3, 3), (5, 1), (FAR, 1)])
        self.assertEqual((one & other).speeds, [1, 1])
        self.assertEqual((one & other).changes, [(2, 0), (3, 2), (5, 0), (FAR, 0)])

    def test_a_change_that_becomes_idle(self):
        one, other = Calendar([1, 1], [(3, 0)]), Calendar([1, 2], [(5, 3)])
        self.assertEqual((one | other).changes, [(5, 3)])
        self.assertEqual((one & other).changes, [(3, 0)])
        self.assertEqual((Calendar([2], [(0, 1)]) | Calendar([2], [])).changes, [])
        self.assertEqual((Calendar([2], [(0, 3)]) & Calendar([2], [])).changes, [])

    def test_neither_calendar_changes(self):
        one, other = Calendar([1, 2], [(0, 3)]), Calendar([2, 1], [(1, 0)])
        one | other
        one & other
        self.assertEqual((one.speeds, one.changes), ([1, 2], [(0, 3)]))
        self.assertEqual((other.speeds, other.changes), ([2, 1], [(1, 0)]))

    def test_unlike_weeks(self):
        one, other = Calendar([1, 2], [(0, 3)]), Calendar([1, 2, 0], [])
        self.assert_error(UnlikeWeeks, (2, 3), lambda: one | other)
        self.assert_error(UnlikeWeeks, (3, 2), lambda: other | one)
        self.assert_error(UnlikeWeeks, (2, 3), lambda: one & other)
        self.assert_error(UnlikeWeeks, (3, 2), lambda: other & one)
        self.assertEqual((one.speeds, one.changes), ([1, 2], [(0, 3)]))
        self.assertEqual((other.speeds, other.changes), ([1, 2, 0], []))

    def test_the_week_check_is_due_first(self):
        one, other = Calendar([1, 0], []), Calendar([0, 0, 0, 1], [])
        self.assert_error(UnlikeWeeks, (2, 4), lambda: one & other)

    def test_never_open_together(self):
        one, other = Calendar([1, 0, 3], []), Calendar([0, 2, 0], [])
        self.assert_error(NeverOpen, 0, lambda: one & other)
        self.assert_error(NeverOpen, 0, lambda: other & one)
        self.assertEqual((one | other).speeds, [1, 2, 3])

    def test_changes_do_not_help_against_never_open(self):
        one, other = Calendar([1, 0], [(1, 3)]), Calendar([0, 2], [])
        self.assert_error(NeverOpen, 0, lambda: one & other)
        self.assertEqual((one.changes, other.changes), ([(1, 3)], []))

    def test_closed_by_changes_alone_is_no_error(self):
        both = Calendar([1], [(0, 0)]) & Calendar([2], [(1, 0)])
        self.assertEqual((both.speeds, both.changes), ([1], [(0, 0), (1, 0)]))

    def test_joined_with_many_changes(self):
        joined = Calendar([1], [])
        for begin in range(0, 12, 3):
            joined = joined & Calendar([1], [(at, 0) for at in range(begin, begin + 3)])
        self.assertEqual(joined.changes, [(at, 0) for at in range(12)])


class MovedTest(CalendarCase):
    def test_small_calendars(self):
        for calendar, speed in small_calendars(5):
            for number in range(-7, 8):
                moved = calendar.moved(number)
                self.assertEqual(moved.week, calendar.week)
                for moment in range(-6, 7):
                    self.assertEqual(moved[moment + number], speed(moment))
                changes = [(at + number, pace) for at, pace in calendar.changes]
                self.assertEqual(moved.changes, changes)

    def test_by_position_and_by_name(self):
        desk = Calendar([1, 2, 0], [(4, 0)])
        for moved in (desk.moved(1), desk.moved(number=1)):
            self.assertEqual((moved.speeds, moved.changes), ([0, 1, 2], [(5, 0)]))
        self.assertEqual((desk.speeds, desk.changes), ([1, 2, 0], [(4, 0)]))

    def test_by_0_by_whole_weeks_and_far(self):
        desk = Calendar([1, 2, 0], [(4, 0)])
        self.assertTrue(desk.moved(0) == desk)
        self.assertEqual((desk.moved(3).speeds, desk.moved(3).changes), ([1, 2, 0], [(7, 0)]))
        self.assertEqual((desk.moved(-6).speeds, desk.moved(-6).changes), ([1, 2, 0], [(-2, 0)]))
        self.assertEqual(desk.moved(FAR).speeds, [0, 1, 2])
        self.assertEqual(desk.moved(FAR).changes, [(FAR + 4, 0)])
        self.assertEqual(desk.moved(-FAR).speeds, [2, 0, 1])
        self.assertEqual(desk.moved(-FAR).changes, [(4 - FAR, 0)])
        self.assertTrue(desk.moved(FAR).moved(-FAR) == desk)


class EqualityTest(CalendarCase):
    def test_small_calendars(self):
        pairs = list(product(small_weeks()[::4], small_changes()[::2]))
        made = [(Calendar(*pair), speed_function(*pair)) for pair in pairs]
        for (one, speed), (other, other_speed) in product(made, made[::7]):
            alike = one.week == other.week and all(
                speed(at) == other_speed(at) for at in range(-12, 13)
            )
            self.assertIs(one == other, alike)
            self.assertIs(one != other, not alike)

    def test_idle_changes_do_not_count(self):
        self.assertTrue(Calendar([1, 0], [(2, 1)]) == Calendar([1, 0], []))
        self.assertFalse(Calendar([1, 0], [(2, 1)]) != Calendar([1, 0], []))

    def test_weeks_that_repeat_are_unlike(self):
        self.assertFalse(Calendar([1], []) == Calendar([1, 1], []))

    def test_one_speed_far_away_makes_calendars_unlike(self):
        self.assertFalse(Calendar([1, 0], [(FAR, 2)]) == Calendar([1, 0], []))
        self.assertFalse(Calendar([1, 0], [(FAR, 2)]) == Calendar([1, 0], [(FAR, 3)]))
        self.assertFalse(Calendar([1, 0], [(FAR, 2)]) == Calendar([1, 0], [(-FAR, 2)]))

    def test_not_equal_to_anything_else(self):
        calendar = Calendar([1, 0], [])
        for other in ([1, 0], ([1, 0], []), (1, 0), [], 1, 0, "1 0 / -", "", None, True, {}):
            self.assertIs(calendar == other, False)
            self.assertIs(other == calendar, False)
            self.assertIs(calendar != other, True)


if __name__ == "__main__":
    unittest.main()
