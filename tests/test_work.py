import unittest
from itertools import product

from dueclocks.calendars import Calendar
from dueclocks.errors import DueError, InvalidAmount, InvalidSpan, UnlikeWeeks
from dueclocks.work import (
    count_open, due, first_unlike, last_open, latest, next_open, nth_open, work,
)
from tests import model

FAR = 10 ** 30
GREAT = 10 ** 31


def desk():
    return Calendar([1, 1, 0], [(4, 0)])


class WorkCase(unittest.TestCase):
    def assert_error(self, kind, value, call, *args, **named):
        """The call raises this very class with this value, and the calendars stay."""
        calendars = [one for one in [*args, *named.values()] if isinstance(one, Calendar)]
        before = [(one.speeds, one.changes) for one in calendars]
        with self.assertRaises(DueError) as context:
            call(*args, **named)
        self.assertIs(type(context.exception), kind)
        self.assertEqual(context.exception.value, value)
        self.assertIs(type(context.exception.value), type(value))
        self.assertEqual([(one.speeds, one.changes) for one in calendars], before)


class SpanTest(WorkCase):
    def test_small_calendars(self):
        for calendar, speed in model.small_calendars(3):
            for begin in range(-5, 6):
                for end in range(begin, 8, 2):
                    self.assertEqual(
                        work(calendar, begin, end), model.plain_work(speed, begin, end)
                    )
                    self.assertEqual(
                        count_open(calendar, begin, end),
                        model.plain_count_open(speed, begin, end),
                    )

    def test_by_position_and_by_name(self):
        fast = Calendar([2, 1, 0], [(4, 0), (5, 3)])
        self.assertEqual(work(fast, 0, 9), 11)
        self.assertEqual(work(fast, end=9, begin=0), 11)
        self.assertEqual(work(end=9, begin=0, calendar=fast), 11)
        self.assertEqual(count_open(fast, 0, 9), 6)
        self.assertEqual(count_open(fast, end=9, begin=0), 6)
        self.assertEqual(count_open(end=9, begin=0, calendar=fast), 6)

    def test_empty_spans(self):
        for moment in (-FAR, -1, 0, 4, FAR):
            self.assertEqual(work(desk(), moment, moment), 0)
            self.assertEqual(count_open(desk(), moment, moment), 0)

    def test_begin_counts_and_end_does_not(self):
        fast = Calendar([1], [(4, 3)])
        self.assertEqual([work(fast, 4, 5), work(fast, 3, 4), work(fast, 5, 6)], [3, 1, 1])
        shut = Calendar([3], [(4, 0)])
        self.assertEqual([work(shut, 4, 5), work(shut, 3, 4), work(shut, 5, 6)], [0, 3, 3])
        self.assertEqual([count_open(shut, at, at + 1) for at in (3, 4, 5)], [1, 0, 1])

    def test_great_spans(self):
        calendar = Calendar([1, 3, 0, 2], [(-FAR, 0), (2, 3), (FAR - 1, 0)])
        # 10 ** 30 is a whole number of weeks; the changes give -1, +3 and -2.
        self.assertEqual(work(calendar, -FAR, FAR), 3 * FAR)
        self.assertEqual(work(calendar, -FAR + 1, FAR), 3 * FAR)
        self.assertEqual(work(calendar, -FAR, FAR - 1), 3 * FAR)
        self.assertEqual(work(calendar, -FAR - 1, FAR), 3 * FAR + 2)
        self.assertEqual(work(calendar, -FAR, FAR + 1), 3 * FAR + 1)
        # 3 of 4 moments are open; the changes give -1, +1 and -1.
        self.assertEqual(count_open(calendar, -FAR, FAR), 3 * FAR // 2 - 1)
        self.assertEqual(count_open(calendar, 0, 2 * FAR), 3 * FAR // 2)
        self.assertEqual(work(Calendar([3], []), -GREAT, GREAT), 6 * GREAT)

    def test_great_spans_that_begin_within_a_week(self):
        calendar = Calendar([0, 1, 2, 3, 0, 1, 1], [])
        for begin, end in product(range(-8, 9), range(5)):
            whole = work(calendar, begin, begin + end + 7 * FAR)
            self.assertEqual(whole, 8 * FAR + work(calendar, begin, begin + end))
            whole = count_open(calendar, begin - 7 * FAR, begin + end)
            self.assertEqual(whole, 5 * FAR + count_open(calendar, begin, begin + end))

    def test_ends_ahead_of_begins(self):
        for call in (work, count_open):
            for begin, end in ((1, 0), (0, -1), (FAR, FAR - 1), (GREAT, -GREAT)):
                self.assert_error(InvalidSpan, (begin, end), call, desk(), begin, end)
                self.assert_error(
                    InvalidSpan, (begin, end), call, end=end, begin=begin, calendar=desk()
                )


class DueTest(WorkCase):
    def test_small_calendars(self):
        for calendar, speed in model.small_calendars():
            for moment in range(-6, 7, 2):
                for amount in range(8):
                    self.assertEqual(
                        due(calendar, moment, amount), model.plain_due(speed, moment, amount)
                    )
                    self.assertEqual(
                        latest(calendar, moment, amount),
                        model.plain_latest(speed, moment, amount),
                    )

    def test_each_moment_and_more_amounts(self):
        for calendar, speed in model.small_calendars(37):
            for moment, amount in product(range(-12, 13), range(30)):
                self.assertEqual(
                    due(calendar, moment, amount), model.plain_due(speed, moment, amount)
                )
                self.assertEqual(
                    latest(calendar, moment, amount), model.plain_latest(speed, moment, amount)
                )

    def test_by_position_and_by_name(self):
        self.assertEqual(due(desk(), 1, 3), 7)
        self.assertEqual(due(desk(), amount=3, moment=1), 7)
        self.assertEqual(due(amount=3, moment=1, calendar=desk()), 7)
        self.assertEqual(latest(desk(), 6, 2), 1)
        self.assertEqual(latest(desk(), amount=2, moment=6), 1)
        self.assertEqual(latest(amount=2, moment=6, calendar=desk()), 1)

    def test_amount_0_is_done_at_once(self):
        for moment in (-FAR, -1, 2, 4, 5, FAR):
            self.assertEqual(due(desk(), moment, 0), moment)
            self.assertEqual(latest(desk(), moment, 0), moment)

    def test_speeds_beyond_the_amount(self):
        fast = Calendar([0, 3, 2], [])
        self.assertEqual([due(fast, 0, amount) for amount in range(7)], [0, 2, 2, 2, 3, 3, 5])
        self.assertEqual(
            [latest(fast, 3, amount) for amount in range(7)], [3, 2, 2, 1, 1, 1, -1]
        )

    def test_a_fast_change_beyond_the_amount(self):
        fast = Calendar([1], [(2, 3), (3, 3)])
        self.assertEqual([due(fast, 0, amount) for amount in range(1, 10)], [1, 2, 3, 3, 3, 4, 4, 4, 5])
        self.assertEqual(
            [latest(fast, 5, amount) for amount in range(1, 10)], [4, 3, 3, 3, 2, 2, 2, 1, 0]
        )

    def test_changes_next_to_the_end(self):
        plain = [1, 1, 1, 0]
        self.assertEqual(due(Calendar(plain, []), 0, 3), 3)
        self.assertEqual(due(Calendar(plain, [(2, 0)]), 0, 3), 5)
        self.assertEqual(due(Calendar(plain, [(2, 0), (3, 1)]), 0, 3), 4)
        self.assertEqual(due(Calendar(plain, [(3, 1)]), 0, 3), 3)
        self.assertEqual(due(Calendar(plain, [(3, 1)]), 0, 4), 4)
        self.assertEqual(due(Calendar(plain, [(-1, 3)]), 0, 3), 3)
        self.assertEqual(latest(Calendar(plain, []), 7, 3), 4)
        self.assertEqual(latest(Calendar(plain, [(4, 0)]), 7, 3), 2)
        self.assertEqual(latest(Calendar(plain, [(3, 1), (4, 0)]), 7, 3), 3)
        self.assertEqual(latest(Calendar(plain, [(3, 1)]), 7, 3), 4)
        self.assertEqual(latest(Calendar(plain, [(7, 3)]), 7, 3), 4)

    def test_great_amounts_by_hand(self):
        self.assertEqual(due(Calendar([1], []), -FAR, GREAT), GREAT - FAR)
        self.assertEqual(latest(Calendar([1], []), FAR, GREAT), FAR - GREAT)
        self.assertEqual(due(Calendar([0, 0, 2], []), 0, GREAT), 3 * GREAT // 2)
        self.assertEqual(due(Calendar([0, 0, 2], []), 0, GREAT - 1), 3 * GREAT // 2)
        self.assertEqual(due(Calendar([0, 0, 2], []), 0, GREAT + 1), 3 * GREAT // 2 + 3)
        self.assertEqual(latest(Calendar([2, 0, 0], []), 0, GREAT), -3 * GREAT // 2)
        self.assertEqual(latest(Calendar([2, 0, 0], []), 0, GREAT - 1), -3 * GREAT // 2)
        self.assertEqual(latest(Calendar([2, 0, 0], []), 0, GREAT + 1), -3 * GREAT // 2 - 3)

    def test_great_amounts_are_done_at_the_end_and_not_ahead_of_it(self):
        changes = [(-FAR, 3), (5, 0), (GREAT + 1, 2)]
        calendar = Calendar([0, 3, 0, 0, 2, 1, 0], changes)
        for moment, amount in product(
            (-FAR - 1, -FAR, -FAR + 1, -3, 0, FAR - 1, FAR, FAR + 1),
            (1, FAR - 1, FAR, FAR + 1, GREAT - 1, GREAT),
        ):
            end = due(calendar, moment, amount)
            self.assertGreaterEqual(work(calendar, moment, end), amount)
            self.assertLess(work(calendar, moment, end - 1), amount)
            begin = latest(calendar, moment, amount)
            self.assertGreaterEqual(work(calendar, begin, moment), amount)
            self.assertLess(work(calendar, begin + 1, moment), amount)

    def test_far_calendars_as_near_ones(self):
        for calendar, speed in model.small_calendars(97):
            for number in (-FAR, FAR):
                far = calendar.moved(number)
                for moment, amount in product(range(-4, 5), range(7)):
                    end = model.plain_due(speed, moment, amount)
                    self.assertEqual(due(far, moment + number, amount), end + number)
                    begin = model.plain_latest(speed, moment, amount)
                    self.assertEqual(latest(far, moment + number, amount), begin + number)

    def test_negative_amounts(self):
        for call in (due, latest):
            for amount in (-1, -2, -GREAT):
                self.assert_error(InvalidAmount, amount, call, desk(), 4, amount)
                self.assert_error(
                    InvalidAmount, amount, call, amount=amount, moment=4, calendar=desk()
                )


class OpenTest(WorkCase):
    def test_small_calendars(self):
        for calendar, speed in model.small_calendars():
            for moment in range(-6, 7):
                self.assertEqual(
                    next_open(calendar, moment), model.plain_next_open(speed, moment)
                )
                self.assertEqual(
                    last_open(calendar, moment), model.plain_last_open(speed, moment)
                )

    def test_by_position_and_by_name(self):
        self.assertEqual(next_open(desk(), 4), 6)
        self.assertEqual(next_open(desk(), moment=4), 6)
        self.assertEqual(next_open(moment=4, calendar=desk()), 6)
        self.assertEqual(last_open(desk(), 5), 3)
        self.assertEqual(last_open(desk(), moment=5), 3)
        self.assertEqual(last_open(moment=5, calendar=desk()), 3)

    def test_an_open_moment_itself(self):
        fast = Calendar([3, 0], [(1, 2)])
        for moment in (-FAR, -2, 0, 1, 2, FAR):
            self.assertEqual(next_open(fast, moment), moment)
            self.assertEqual(last_open(fast, moment), moment)

    def test_across_several_closed_moments(self):
        calendar = Calendar([0, 0, 0, 2, 0], [(3, 0), (8, 0), (13, 0)])
        self.assertEqual([next_open(calendar, at) for at in (-1, 0, 8, 17, 19)], [18] * 4 + [23])
        self.assertEqual([last_open(calendar, at) for at in (17, 13, 0, -2, -3)], [-2] * 4 + [-7])

    def test_far_moments(self):
        # Open are the moments with the remainder 1, not 10 ** 30, and -10 ** 30.
        calendar = Calendar([0, 1, 0], [(-FAR, 3), (FAR, 0)])
        self.assertEqual([-FAR % 3, FAR % 3], [2, 1])
        self.assertEqual(next_open(calendar, FAR - 1), FAR + 3)
        self.assertEqual(last_open(calendar, FAR + 1), FAR - 3)
        self.assertEqual(next_open(calendar, -FAR), -FAR)
        self.assertEqual(next_open(calendar, -FAR + 1), -FAR + 2)
        self.assertEqual(last_open(calendar, -FAR + 1), -FAR)
        self.assertEqual(last_open(calendar, -FAR - 2), -FAR - 4)


class NthOpenTest(WorkCase):
    def test_small_calendars(self):
        for calendar, speed in model.small_calendars(3):
            for moment, index in product(range(-6, 7, 2), range(7)):
                self.assertEqual(
                    nth_open(calendar, moment, index), model.plain_nth_open(speed, moment, index)
                )

    def test_by_position_and_by_name(self):
        self.assertEqual(nth_open(desk(), 1, 3), 7)
        self.assertEqual(nth_open(desk(), index=3, moment=1), 7)
        self.assertEqual(nth_open(index=3, moment=1, calendar=desk()), 7)

    def test_index_0_is_the_next_open_moment(self):
        self.assertEqual([nth_open(desk(), at, 0) for at in range(-1, 7)], [0, 0, 1, 3, 3, 6, 6, 6])

    def test_a_fast_moment_counts_once(self):
        fast = Calendar([0, 3, 2], [(5, 0), (6, 3)])
        self.assertEqual([nth_open(fast, 0, index) for index in range(6)], [1, 2, 4, 6, 7, 8])

    def test_great_indexes(self):
        fast = Calendar([0, 3, 2], [(5, 0), (6, 3)])
        # Of each week two moments are open; index 0 of week k has the index 2 * k.
        self.assertEqual(nth_open(fast, 0, FAR), 3 * FAR // 2 + 1)
        self.assertEqual(nth_open(fast, 0, FAR + 1), 3 * FAR // 2 + 2)
        self.assertEqual(nth_open(fast, -3 * FAR, FAR - 1), -3 * FAR // 2 - 1)
        self.assertEqual(nth_open(Calendar([1], [(0, 0)]), -FAR, FAR), 1)
        self.assertEqual(nth_open(Calendar([1], [(0, 0)]), -FAR, FAR - 1), -1)

    def test_negative_indexes(self):
        for index in (-1, -2, -GREAT):
            self.assert_error(InvalidAmount, index, nth_open, desk(), 4, index)
            self.assert_error(
                InvalidAmount, index, nth_open, index=index, moment=4, calendar=desk()
            )


class FirstUnlikeTest(WorkCase):
    def test_small_calendars(self):
        some = model.small_calendars(19)
        pairs = [
            (one, other)
            for one, other in product(some, some[::3])
            if one[0].week == other[0].week
        ]
        self.assertGreater(len(pairs), 500)
        for (one, speed), (other, other_speed) in pairs:
            self.assertEqual(
                first_unlike(one, other), model.plain_first_unlike(speed, other_speed, 40)
            )

    def test_changes_of_one_week(self):
        week = [1, 0, 2]
        made = [
            (Calendar(week, changes), model.speed_function(week, changes))
            for changes in model.small_changes()
        ]
        for (one, speed), (other, other_speed) in product(made, made):
            self.assertEqual(
                first_unlike(one, other), model.plain_first_unlike(speed, other_speed, 40)
            )

    def test_by_position_and_by_name(self):
        other = Calendar([1, 1, 0], [])
        self.assertEqual(first_unlike(desk(), other), 4)
        self.assertEqual(first_unlike(desk(), other=other), 4)
        self.assertEqual(first_unlike(other=other, calendar=desk()), 4)

    def test_none(self):
        self.assertIsNone(first_unlike(desk(), desk()))
        self.assertIsNone(first_unlike(Calendar([1, 0], [(2, 1)]), Calendar([1, 0], [(1, 0)])))

    def test_two_moments_equally_near(self):
        plain = Calendar([1], [])
        self.assertEqual(first_unlike(plain, Calendar([1], [(-5, 0), (5, 0)])), 5)
        self.assertEqual(first_unlike(plain, Calendar([1], [(-5, 0), (6, 0)])), -5)
        self.assertEqual(first_unlike(Calendar([1, 1], []), Calendar([1, 2], [])), 1)
        self.assertEqual(first_unlike(Calendar([1, 1], []), Calendar([1, 2], [(1, 1)])), -1)

    def test_far_changes(self):
        plain = Calendar([1, 2], [])
        self.assertEqual(first_unlike(plain, Calendar([1, 2], [(-FAR, 0), (FAR, 0)])), FAR)
        self.assertEqual(first_unlike(plain, Calendar([1, 2], [(-FAR, 0), (FAR + 1, 0)])), -FAR)

    def test_changes_that_hide_where_the_weeks_are_unlike(self):
        week, other_week = [1] * 12, [1] * 7 + [2] + [1] * 4
        plain = Calendar(week, [])
        # Moments with the remainder 7, from the nearest one on: -5, 7, -17, 19, -29 ..
        for hidden, shown in (
            ([], -5),
            ([-5], 7),
            ([-5, 7], -17),
            ([-17, -5, 7], 19),
            ([-17, -5, 19], 7),
        ):
            other = Calendar(other_week, [(at, 1) for at in hidden])
            self.assertEqual(first_unlike(plain, other), shown)
            self.assertEqual(first_unlike(other, plain), shown)

    def test_both_calendars_hide_moments(self):
        one = Calendar([1, 3], [(1, 0), (3, 0), (5, 0)])
        other = Calendar([1, 0], [(-5, 3), (-3, 3), (-1, 3)])
        self.assertEqual(first_unlike(one, other), 7)

    def test_joined_calendars_with_many_changes_that_hide(self):
        other = Calendar([1, 2], [])
        for begin in range(1, 25, 6):
            other = other & Calendar([1, 2], [(at, 1) for at in (begin, begin + 2, begin + 4)])
        self.assertEqual(len(other.changes), 12)
        self.assertEqual(first_unlike(Calendar([1, 1], []), other), -1)
        for begin in range(1, 25, 6):
            other = other & Calendar([1, 2], [(-at, 1) for at in (begin + 4, begin + 2, begin)])
        self.assertEqual(len(other.changes), 24)
        self.assertEqual(first_unlike(Calendar([1, 1], []), other), 25)

    def test_unlike_weeks(self):
        self.assert_error(UnlikeWeeks, (3, 2), first_unlike, desk(), Calendar([1, 1], []))
        self.assert_error(
            UnlikeWeeks, (2, 3), first_unlike, other=desk(), calendar=Calendar([1, 1], [])
        )


class UntouchedTest(WorkCase):
    def test_no_call_changes_a_calendar(self):
        one, other = desk(), Calendar([1, 0, 0], [(-4, 2)])
        work(one, -9, 9)
        due(one, 0, 9)
        latest(one, 0, 9)
        next_open(one, 4)
        last_open(one, 4)
        count_open(one, -9, 9)
        nth_open(one, 0, 9)
        first_unlike(one, other)
        self.assertEqual((one.speeds, one.changes), ([1, 1, 0], [(4, 0)]))
        self.assertEqual((other.speeds, other.changes), ([1, 0, 0], [(-4, 2)]))


if __name__ == "__main__":
    unittest.main()
