import math
import unittest
from fractions import Fraction
from itertools import product

from dueclocks.calendars import Calendar
from dueclocks.errors import InvalidAmount
from dueclocks.far import after, orbit, rates, times_until
from dueclocks.rules import Rule
from tests.cases import RuleCase
from tests.rule_model import (
    FAR, GREAT, SPREAD, random_tellings, small_rules, told_rules, value_function,
)

# Each number of moments of a lap, and so each bottom of a rate, divides this one.
LAPS = math.lcm(*range(1, 13))


def plain_orbit(value, moment, times):
    found = [moment]
    for _ in range(times):
        found.append(value(found[-1]))
    return found


def plain_times_until(value, moment, goal):
    """Apply a rule until the goal is reached, or until the value ascends no more."""
    times = 0
    while moment < goal:
        if value(moment) <= moment:
            return None
        moment, times = value(moment), times + 1
    return times


def plain_rate(offsets):
    """Return the rate of a rule without changes, of a part of its orbit that is some laps long."""
    moments = plain_orbit(lambda at: at + offsets[at % len(offsets)], 0, LAPS + len(offsets))
    rate = Fraction(moments[-1] - moments[len(offsets)], LAPS)
    return rate.numerator, rate.denominator


def spread_rules(factor, step=7):
    """Return tuples (rule, value function) of small rules with changes so many times as far away."""
    found = []
    for rule, _ in small_rules(step):
        week = rule.week
        changes = [(at % week + week * (at // week) * factor, one) for at, one in rule.changes]
        try:
            found.append((Rule(rule.base, changes), value_function(rule.base, changes)))
        except ValueError:
            continue
    return found


def busy_rule():
    """Return a rule with 24 changes, about 10 ** 30 apart."""
    return Rule([2, 2, 2], [(at * FAR + at, 1 + at // 3 % 2) for at in range(-12, 12)])


class AfterTest(RuleCase):
    def test_small_rules(self):
        for rule, value in small_rules(11):
            for moment in range(-7, 8):
                for times, reached in enumerate(plain_orbit(value, moment, 12)):
                    self.assertEqual(after(rule, moment, times), reached)

    def test_rules_whose_changes_are_far_from_one_another(self):
        rules = spread_rules(13)
        self.assertGreater(len(rules), 500)
        for rule, value in rules:
            for moment in (-60, -41, -3, 0, 2, 40):
                reached = plain_orbit(value, moment, 100)
                for times in (1, 5, 17, 40, 63, 64, 65, 99, 100):
                    self.assertEqual(after(rule, moment, times), reached[times])

    def test_random_rules(self):
        many = {1: 0, 0: 0, -1: 0}
        for rule, value in told_rules(random_tellings(31, 150)):
            for moment in (-90, -30, -11, 0, 5, 70):
                reached = plain_orbit(value, moment, 60)
                many[(reached[60] > moment) - (reached[60] < moment)] += 1
                for times in (0, 1, 2, 7, 12, 13, 24, 31, 60):
                    self.assertEqual(after(rule, moment, times), reached[times])
        self.assertGreater(min(many.values()), 30)

    def test_far_rules_as_near_ones(self):
        for base, changes in random_tellings(32, 60, length=5):
            rule, week = Rule(base, changes), len(base)
            for number in (-FAR, FAR, FAR + 5):
                turned = [base[(rest - number) % week] for rest in range(week)]
                moved = Rule(turned, [(at + number, offset) for at, offset in changes])
                for moment, times in product((-40, 0, 9), (1, 6, 50, FAR, GREAT)):
                    expected = after(rule, moment, times) + number
                    self.assertEqual(after(moved, moment + number, times), expected)

    def test_so_many_times_and_then_more_are_all_together(self):
        tellings = random_tellings(33, 60, begins=SPREAD, length=4)
        tellings += random_tellings(34, 30, begins=SPREAD, length=4, jump=FAR)
        for rule, value in [*told_rules(tellings), (busy_rule(), busy_rule())]:
            for moment in (-GREAT, -FAR - 40, -25, 0, 30, FAR - 9, FAR + 50):
                for one, other in ((FAR, 3), (5, FAR), (FAR, GREAT), (FAR // 7, FAR // 3), (1, 40)):
                    whole = after(rule, moment, one + other)
                    self.assertEqual(after(rule, after(rule, moment, one), other), whole)
                    self.assertEqual(after(rule, after(rule, moment, other), one), whole)
                self.assertEqual(after(rule, moment, 20), plain_orbit(value, moment, 20)[-1])

    def test_great_ways_lie_between_those_of_the_least_and_the_greatest_wait(self):
        for rule, value in told_rules(random_tellings(35, 80, begins=SPREAD, length=4)):
            waits = [*rule.base, *[offset for _, offset in rule.changes]]
            for moment in (-GREAT, -FAR - 3, 0, FAR + 3):
                reached = after(rule, moment, FAR)
                self.assertLessEqual(moment + FAR * min(waits), reached)
                self.assertLessEqual(reached, moment + FAR * max(waits))
                self.assertEqual(value(reached), after(rule, moment, FAR + 1))

    def test_delays(self):
        for week, number in product((1, 5, 12), (-GREAT, -3, -1, 0, 1, 7, GREAT)):
            rule = Rule.delay(week, number)
            for moment, times in product((-GREAT, 0, 9), (0, 1, 2, FAR, GREAT)):
                self.assertEqual(after(rule, moment, times), moment + number * times)

    def test_a_rule_that_goes_up_to_a_far_moment(self):
        rule = Rule([1], [(FAR, 0)])
        for moment in (-FAR, -1, 0, 9, FAR - 1):
            way = FAR - moment
            found = [after(rule, moment, way + step) for step in (-1, 0, 1, GREAT)]
            self.assertEqual(found, [FAR - 1, FAR, FAR, FAR])
        self.assertEqual([after(rule, at, GREAT) for at in (FAR, FAR + 8)], [FAR, FAR + 8])

    def test_a_rule_that_goes_down_to_a_far_moment(self):
        rule = Rule([0, 0], [(-FAR, -1), (1 - FAR, -1)])
        for moment in (FAR, 3, 0, -9, -FAR):
            way = FAR + moment + 1
            found = [after(rule, moment, way + step) for step in (-1, 0, 1, GREAT)]
            self.assertEqual(found, [-FAR, -FAR - 1, -FAR - 1, -FAR - 1])
        self.assertEqual(after(rule, -FAR - 2, GREAT), -FAR - 2)
        self.assertEqual(after(Rule([-1, -2], []), 4, GREAT), 5 - 2 * GREAT)

    def test_a_rule_that_goes_on_at_another_pace_behind_each_change(self):
        rule = Rule([1], [(0, 2), (10, 3), (10 + 3 * FAR, FAR), (4 * FAR, FAR + 1)])
        self.assertEqual(after(rule, -GREAT, GREAT), 0)
        self.assertEqual(after(rule, -GREAT, GREAT + 5), 10)
        self.assertEqual(after(rule, -GREAT, GREAT + 5 + FAR), 10 + 3 * FAR)
        self.assertEqual(after(rule, -GREAT, GREAT + 6 + FAR), 10 + 4 * FAR)
        self.assertEqual(after(rule, 0, 8 + FAR), 12 + 6 * FAR)
        self.assertEqual(after(rule, 0, 6 + FAR + GREAT), 10 + 4 * FAR + GREAT * (FAR + 1))

    def test_moments_next_to_changes(self):
        # The one changed moment is leapt over by half of the orbits.
        rule = Rule([2, 2], [(0, 3), (2, 2)])
        for far in (0, FAR):
            found = [after(rule, -5 - 2 * far, times + far) for times in range(6)]
            self.assertEqual(found, [-5, -3, -1, 1, 3, 5])
            found = [after(rule, -4 - 2 * far, times + far) for times in range(6)]
            self.assertEqual(found, [-4, -2, 0, 3, 5, 7])
        rule = Rule([2, 2], [(0, FAR), (1, FAR)])
        for far in (0, FAR):
            found = [after(rule, -5 - 2 * far, times + far) for times in range(6)]
            self.assertEqual(found, [-5, -3, -1, 1, FAR + 1, 2 * FAR + 1])
            found = [after(rule, -4 - 2 * far, times + far) for times in range(6)]
            self.assertEqual(found, [-4, -2, 0, FAR, 2 * FAR, 3 * FAR])

    def test_0_times(self):
        for rule in (busy_rule(), Rule.delay(12, -FAR), Rule([0], [])):
            for moment in (-GREAT, -1, 0, FAR):
                self.assert_answers(moment, after, rule, moment, 0)

    def test_by_position_and_by_name(self):
        rule = Rule([1, 0], [(4, 3), (5, 2)])
        self.assert_answers(7, after, rule, 4, 1)
        self.assert_answers(4 + 3 + 2 * (FAR - 1), after, rule, 4, FAR)
        self.assert_answers(1, after, rule, 0, FAR)

    def test_negative_times(self):
        for times in (-1, -2, -500, -FAR, -GREAT):
            for moment in (0, FAR):
                self.assert_errors(InvalidAmount, times, after, busy_rule(), moment, times)

    def test_a_rule_with_many_changes_as_its_parts(self):
        one = busy_rule()
        self.assertEqual(len(one.changes), 24)
        whole = one * 4
        self.assertGreater(len(whole.changes), 60)
        for moment, times in product((-5, 3 * FAR - 8, 12 * FAR, -GREAT), (0, 1, 60, FAR, GREAT)):
            self.assertEqual(after(whole, moment, times), after(one, moment, 4 * times))


class OrbitTest(RuleCase):
    def test_small_rules(self):
        for rule, value in small_rules(23):
            for moment, times in product((-6, -1, 0, 3), (0, 1, 2, 9)):
                self.assertEqual(list(orbit(rule, moment, times)), plain_orbit(value, moment, times))

    def test_random_rules_500_times_also_far_apart(self):
        tellings = random_tellings(36, 12) + random_tellings(37, 12, begins=SPREAD, length=4)
        for rule, value in told_rules(tellings):
            for moment in (-GREAT, -60, 0, FAR - 30):
                self.assertEqual(list(orbit(rule, moment, 500)), plain_orbit(value, moment, 500))

    def test_as_after(self):
        for moment in (-GREAT, -12 * FAR - 20, -9, 0, FAR):
            for times, reached in enumerate(orbit(busy_rule(), moment, 60)):
                self.assertEqual(after(busy_rule(), moment, times), reached)

    def test_values_never_descend_or_never_ascend(self):
        for rule, _ in told_rules(random_tellings(38, 60)):
            for moment in (-70, -8, 0, 33):
                found = list(orbit(rule, moment, 90))
                self.assertIn(found, (sorted(found), sorted(found)[::-1]))

    def test_by_position_and_by_name(self):
        rule, expected = Rule([1, 0], [(4, 3), (5, 2)]), [4, 7, 9, 11]
        self.assertEqual(list(orbit(rule, 4, 3)), expected)
        self.assertEqual(list(orbit(rule, times=3, moment=4)), expected)
        self.assertEqual(list(orbit(times=3, moment=4, rule=rule)), expected)

    def test_0_times_is_the_moment_alone(self):
        for moment in (-GREAT, 0, FAR):
            self.assertEqual(list(orbit(busy_rule(), moment, 0)), [moment])

    def test_one_moment_after_the_other(self):
        found = orbit(Rule.delay(2, 5), 1, 2)
        self.assertIs(iter(found), found)
        self.assertEqual([next(found), next(found), next(found), next(found, None)], [1, 6, 11, None])
        self.assertIsNone(next(found, None))

    def test_asked_for_twice_and_of_two_moments_by_turns(self):
        rule = busy_rule()
        self.assertEqual(list(orbit(rule, 3, 40)), list(orbit(rule, 3, 40)))
        one, other, third = orbit(rule, 3, 40), orbit(rule, -FAR, 40), orbit(rule, 3, 40)
        found = [(next(one), next(other), next(third)) for _ in range(41)]
        near, far = plain_orbit(rule, 3, 40), plain_orbit(rule, -FAR, 40)
        self.assertEqual(found, list(zip(near, far, near)))
        self.assertEqual([next(one, None), next(other, None), next(third, None)], [None] * 3)

    def test_negative_times(self):
        def first(rule, moment, times):
            return next(orbit(rule, moment, times))

        for times in (-1, -2, -500, -GREAT):
            self.assert_errors(InvalidAmount, times, first, busy_rule(), 0, times)
            self.assert_error(
                InvalidAmount, times, lambda **named: list(orbit(**named)),
                rule=busy_rule(), moment=FAR, times=times,
            )


class TimesUntilTest(RuleCase):
    def test_small_rules(self):
        many = {True: 0, False: 0}
        for rule, value in small_rules(11):
            for moment, goal in product(range(-6, 7, 2), range(-9, 12)):
                times = plain_times_until(value, moment, goal)
                many[times is None] += 1
                self.assertEqual(times_until(rule, moment, goal), times)
        self.assertGreater(min(many.values()), 1000)

    def test_rules_whose_changes_are_far_from_one_another(self):
        many = {True: 0, False: 0}
        for rule, value in spread_rules(13, step=11):
            for moment, goal in product((-60, -41, -3, 0, 30), (-40, -2, 1, 25, 39, 77)):
                times = plain_times_until(value, moment, goal)
                many[times is None] += 1
                self.assertEqual(times_until(rule, moment, goal), times)
        self.assertGreater(min(many.values()), 1000)

    def test_random_rules(self):
        for rule, value in told_rules(random_tellings(39, 150)):
            for moment, goal in product((-70, -20, -3, 0, 15), (-69, -19, 0, 4, 40, 41, 90)):
                self.assertEqual(times_until(rule, moment, goal), plain_times_until(value, moment, goal))

    def test_the_least_number_also_10_30_away(self):
        tellings = random_tellings(40, 60, begins=SPREAD, length=4)
        tellings += random_tellings(41, 30, begins=SPREAD, length=4, jump=FAR)
        many = {True: 0, False: 0}
        for rule in [*[one for one, _ in told_rules(tellings)], busy_rule()]:
            for moment, goal in product((-GREAT, -FAR - 9, 0), (-FAR, -1, 7, FAR, FAR + 1, GREAT)):
                times = times_until(rule, moment, goal)
                many[times is None] += 1
                if goal <= moment:
                    self.assertEqual(times, 0)
                elif times is None:
                    reached = after(rule, moment, GREAT)
                    self.assertLess(reached, goal)
                    self.assertLessEqual(rule(reached), reached)
                else:
                    self.assertGreaterEqual(after(rule, moment, times), goal)
                    self.assertLess(after(rule, moment, times - 1), goal)
        self.assertGreater(min(many.values()), 100)

    def test_just_reached_and_just_missed(self):
        rule = Rule([3], [(30, 4), (30 + 4 * FAR, 3)])
        for moment in (0, -3 * FAR):
            ahead = -moment // 3
            for goal, times in (
                (3, 1), (4, 2), (6, 2), (7, 3), (29, 10), (30, 10), (31, 11), (34, 11), (35, 12),
                (30 + 4 * FAR - 4, 9 + FAR), (30 + 4 * FAR - 3, 10 + FAR), (30 + 4 * FAR, 10 + FAR),
                (31 + 4 * FAR, 11 + FAR), (33 + 4 * FAR, 11 + FAR), (34 + 4 * FAR, 12 + FAR),
                (29 + GREAT, 10 + 3 * FAR), (30 + GREAT, 10 + 3 * FAR), (31 + GREAT, 11 + 3 * FAR),
            ):
                self.assert_answers(times + ahead, times_until, rule, moment, goal)

    def test_a_goal_that_is_at_most_the_moment(self):
        for rule in (busy_rule(), Rule([0], []), Rule.delay(3, -5), Rule.delay(3, 5)):
            for moment in (-GREAT, -1, 0, FAR):
                for goal in (moment, moment - 1, -GREAT):
                    self.assert_answers(0, times_until, rule, moment, goal)

    def test_rules_that_stay_or_fall(self):
        for rule in (Rule([0], []), Rule.delay(4, -1), Rule.delay(2, -GREAT), Rule([-1, -2], [(2 * FAR, 9), (2 * FAR + 1, 9)])):
            for moment in (-FAR, 0, 7):
                for goal in (moment + 1, moment + 2, moment + FAR):
                    self.assert_answers(None, times_until, rule, moment, goal)

    def test_rules_that_come_to_a_stop_behind_some_changes(self):
        rule = Rule([2], [(0, 3), (FAR, 2), (FAR + 10, 1), (2 * FAR, 0)])
        self.assertEqual(after(rule, -1, GREAT), 2 * FAR)
        for moment in (-FAR, -1, 0, 5, FAR + 3):
            times = times_until(rule, moment, 2 * FAR)
            self.assertEqual(after(rule, moment, times), 2 * FAR)
            self.assertEqual(after(rule, moment, times - 1), 2 * FAR - 1)
            for goal in (2 * FAR + 1, GREAT):
                self.assertIsNone(times_until(rule, moment, goal))
        # The moment of a stop may be passed.
        over = Rule([2, 1], [(0, 0)])
        self.assertEqual([over(at) for at in (-2, -1, 0, 1, 2)], [0, 0, 0, 2, 2])
        self.assertIsNone(times_until(over, -FAR, 1))
        self.assertEqual(times_until(over, -FAR, 0), FAR // 2)
        self.assertEqual(times_until(over, 1, 2), 1)
        self.assertIsNone(times_until(over, 1, 3))

    def test_by_position_and_by_name(self):
        rule = Rule([1, 0], [(4, 3), (5, 2)])
        self.assert_answers(2, times_until, rule, 4, 9)
        self.assert_answers(FAR, times_until, rule, 5, 4 + 2 * FAR)
        self.assert_answers(None, times_until, rule, 0, 2)


class RatesTest(RuleCase):
    def assert_fractions(self, found):
        self.assertIs(type(found), tuple)
        self.assertEqual(len(found), 2)
        for one in found:
            self.assertIs(type(one), tuple)
            top, bottom = one
            self.assertEqual((type(top), type(bottom)), (int, int))
            self.assertGreaterEqual(bottom, 1)
            self.assertEqual(math.gcd(top, bottom), 1)

    def test_small_rules(self):
        for rule, value in small_rules(5):
            behind = [value(60 + rest) - 60 - rest for rest in range(rule.week)]
            found = rates(rule)
            self.assert_fractions(found)
            for one, offsets in zip(found, (rule.base, behind)):
                # Six times are whole laps of each of these weeks of up to three moments.
                moments = plain_orbit(lambda at: at + offsets[at % len(offsets)], 5, 9)
                self.assertEqual(Fraction(*one), Fraction(moments[9] - moments[3], 6))

    def test_random_rules(self):
        fractions = set()
        for rule, _ in told_rules(random_tellings(42, 30, length=5)):
            behind = [rule(LAPS + rest) - LAPS - rest for rest in range(rule.week)]
            found = rates(rule)
            self.assert_fractions(found)
            self.assertEqual(found, (plain_rate(rule.base), plain_rate(behind)))
            fractions.update(found)
        self.assertGreater(len({bottom for _, bottom in fractions}), 3)

    def test_each_bottom_and_below_0(self):
        for bottom in range(1, 12):
            # Of the moments of the week each is come to but one, so many times in a week.
            week, base = bottom + 1, [2] + [1] * bottom
            self.assertEqual(list(orbit(Rule(base, []), 0, bottom)), [0, *range(2, week + 1)])
            for weeks in (-FAR, -3, -2, -1, 0, 1, 5, FAR):
                rate = Fraction(week, bottom) + weeks * week
                told = (rate.numerator, rate.denominator)
                self.assertEqual(told[1], bottom)
                rule = Rule([offset + weeks * week for offset in base], [])
                self.assert_answers((told, told), rates, rule)

    def test_in_lowest_terms(self):
        for base, rate in (
            ([2] * 12, (2, 1)), ([6] * 4, (6, 1)), ([-4] * 6, (-4, 1)), ([2, 1, 2, 1], (2, 1)),
            ([2, 1, 1, 2, 1, 1], (3, 2)), ([2, 1, 2, 1, 1, 1], (3, 2)), ([1] * 12, (1, 1)),
            ([-2, -3, -3, -2, -3, -3], (-3, 1)), ([4, 3, 2, 1], (4, 1)), ([6, 5, 4, 6, 5, 4], (6, 1)),
        ):
            self.assertEqual(plain_rate(base), rate)
            self.assertEqual(rates(Rule(base, [])), (rate, rate))

    def test_0(self):
        for rule in (Rule([0], []), Rule([1, 0], []), Rule([0, -1], []), Rule([0, 0], [(3, 1)])):
            self.assert_answers(((0, 1), (0, 1)), rates, rule)

    def test_base_and_behind_all_changes_unlike(self):
        rule = Rule([2, 1, 2], [(at, 7 + at // FAR) for far in (-FAR, FAR) for at in range(far, far + 3)])
        self.assert_answers(((3, 2), (8, 1)), rates, rule)
        self.assert_answers(((0, 1), (GREAT, 1)), rates, Rule([0], [(-GREAT, GREAT)]))
        self.assert_answers(((-5, 1), (3, 1)), rates, Rule([-5], [(0, -1), (7, 3)]))
        self.assert_answers(((1, 1), (0, 1)), rates, Rule([1, 1], [(FAR, 1), (FAR + 1, 0)]))

    def test_as_far_as_great_numbers_tell(self):
        for rule, _ in told_rules(random_tellings(43, 60)):
            for moment, (top, bottom) in zip((-GREAT, GREAT), rates(rule)):
                begin = after(rule, moment, 12)
                times = LAPS * 10 ** 20
                self.assertEqual((after(rule, begin, times) - begin) * bottom, top * times)

    def test_promises(self):
        for speeds, amount, rate in (
            ([1, 1, 0], 2, (3, 1)), ([1, 1, 0], 1, (3, 2)), ([3], 4, (2, 1)), ([1, 0, 2, 0], 1, (2, 1)),
            ([1] + [0] * 11, 5, (60, 1)), ([1, 1, 1, 0, 0, 1, 1], 3, (21, 5)), ([2, 1], 0, (0, 1)),
            ([1, 0], FAR, (2 * FAR, 1)),
        ):
            for changes in ([], [(4, 0)], [(-FAR, 3), (FAR, 0)]):
                rule = Rule.promise(Calendar(speeds, changes), amount)
                self.assertEqual(rates(rule), (rate, rate))


class UntouchedTest(RuleCase):
    def test_no_call_changes_a_rule(self):
        rule = busy_rule()
        before = (rule.week, rule.base, rule.changes)
        after(rule, 3, FAR)
        list(orbit(rule, -FAR, 50))
        times_until(rule, -FAR, FAR)
        rates(rule)
        self.assertEqual((rule.week, rule.base, rule.changes), before)
        self.assertTrue(rule == busy_rule())


if __name__ == "__main__":
    unittest.main()
