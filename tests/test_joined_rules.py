import unittest
from itertools import product

from dueclocks.errors import InvalidAmount, UnlikeWeeks
from dueclocks.rules import Rule, earlier_of, in_turn, later_of
from tests.cases import RuleCase
from tests.rule_model import (
    FAR, GREAT, SPREAD, near, offsets_of, pairs_of_rules, plain_latest, random_pairs,
    random_tellings, small_rules, spots, told_rules, turning_spots, value_function,
)

JOINS = (lambda one, other: one >> other, lambda one, other: one | other, lambda one, other: one & other)


class InTurnTest(RuleCase):
    def test_small_rules(self):
        for (one, value), (other, other_value) in pairs_of_rules(61, 37):
            self.assert_tells(one >> other, lambda at: other_value(value(at)), near(25))

    def test_random_rules(self):
        for (one, value), (other, other_value) in random_pairs(1, 8):
            moments = turning_spots(one, other)
            self.assert_tells(one >> other, lambda at: other_value(value(at)), moments)

    def test_changes_far_apart_and_great_offsets(self):
        for (one, value), (other, other_value) in random_pairs(2, 3, begins=SPREAD, length=3, jump=FAR):
            moments = turning_spots(one, other)
            self.assert_tells(one >> other, lambda at: other_value(value(at)), moments)

    def test_great_delays(self):
        for (one, value), number in product(small_rules(97), (-GREAT, -FAR, FAR + 1, GREAT)):
            delay = Rule.delay(one.week, number)
            self.assert_tells(one >> delay, lambda at: value(at) + number, near(12))
            moments = [at - number for at in near(12)]
            self.assert_tells(delay >> one, lambda at: value(at + number), moments)

    def test_the_brackets_do_not_matter(self):
        some = small_rules(199)
        for (one, _), (two, _), (three, _) in product(some, some, some[::3]):
            if one.week == two.week == three.week:
                self.assertTrue((one >> two) >> three == one >> (two >> three))
        for (one, _), (two, _) in random_pairs(3, 3, begins=SPREAD, length=3):
            self.assertTrue((one >> two) >> one == one >> (two >> one))

    def test_a_hundred_changes(self):
        rule = Rule([0] * 12, [(at, 5 + at // 24) for at in range(120)])
        self.assertEqual(len(rule.changes), 60)
        whole, value = rule >> rule, value_function(rule.base, rule.changes)
        self.assert_tells(whole, lambda at: value(value(at)), near(200))

    def test_in_turn_of_one_to_four_rules(self):
        for (one, value), (two, other_value) in pairs_of_rules(211, 223):
            three = Rule.delay(one.week, 2)
            for whole, joined in (
                (in_turn(one), one),
                (in_turn(one, two), one >> two),
                (in_turn(one, two, one), (one >> two) >> one),
                (in_turn(two, three, one, two), ((two >> three) >> one) >> two),
            ):
                self.assertTrue(whole == joined)
            self.assertEqual(in_turn(one, two, three)(1), other_value(value(1)) + 2)


class LaterAndEarlierTest(RuleCase):
    def test_small_rules(self):
        for (one, value), (other, other_value) in pairs_of_rules(61, 41):
            self.assert_tells(one | other, lambda at: max(value(at), other_value(at)), near(15))
            self.assert_tells(one & other, lambda at: min(value(at), other_value(at)), near(15))

    def test_random_rules_also_far_apart(self):
        pairs = random_pairs(4, 4) + random_pairs(5, 3, begins=SPREAD, length=3, jump=FAR)
        for (one, value), (other, other_value) in pairs:
            moments = turning_spots(one, other)
            self.assert_tells(one | other, lambda at: max(value(at), other_value(at)), moments)
            self.assert_tells(one & other, lambda at: min(value(at), other_value(at)), moments)

    def test_later_of_and_earlier_of_one_to_four_rules(self):
        for (one, value), (two, other_value) in pairs_of_rules(151, 163):
            three, four = Rule.delay(one.week, 1), Rule.delay(one.week, -1)
            values = [value, other_value, three, four]
            for many in range(1, 5):
                rules = [one, two, three, four][:many]
                self.assert_tells(
                    later_of(*rules), lambda at: max(one(at) for one in values[:many]), near(12)
                )
                self.assert_tells(
                    earlier_of(*rules), lambda at: min(one(at) for one in values[:many]), near(12)
                )


class LatestStartTest(RuleCase):
    def assert_late(self, rule, value, goals):
        least = min(offsets_of(rule))
        self.assert_tells(~rule, lambda goal: plain_latest(value, goal, goal - least), goals)

    def goals_of(self, rule, value):
        """Return moments near all values near changes."""
        step = 2 * rule.week + 1
        edges = [(value(at - step), value(at + step)) for at in [0] + [at for at, _ in rule.changes]]
        return sorted({goal for low, high in edges for goal in range(low - 3, high + 4)})

    def test_small_rules(self):
        for rule, value in small_rules(2):
            self.assert_late(rule, value, near(20))

    def test_random_rules_with_jumps_up_to_100(self):
        for jump, begins in ((9, ((-20, 0),)), (100, ((-20, 0),)), (97, SPREAD)):
            for rule, value in told_rules(random_tellings(6, 25, begins=begins, length=4, jump=jump)):
                self.assert_late(rule, value, self.goals_of(rule, value))

    def test_a_hundred_jumps_of_100(self):
        rule = Rule([0], [(at, 99 * at) for at in range(1, 101)])
        late = ~rule
        self.assertEqual(late(9), 0)
        for start in range(1, 101):
            self.assertEqual([late(100 * start - 1), late(100 * start)], [start - 1, start])
        self.assertEqual([late(10050), late(FAR), late(-FAR)], [150, FAR - 9900, -FAR])
        self.assertEqual(late.changes[-1], (9999, -9900))
        self.assertEqual(len(late.changes), 9900)

    def test_great_offsets(self):
        for rule, value in small_rules(59):
            for number in (-GREAT, FAR):
                far = rule >> Rule.delay(rule.week, number)
                goals = [goal + number for goal in near(20)]
                self.assert_late(far, lambda at: value(at) + number, goals)

    def assert_bounded(self, rule, goals):
        """f(t) is at most u exactly if t is at most the latest start for u."""
        late = ~rule
        for goal in goals:
            start = late(goal)
            for moment in (start - 9, start - 1, start, start + 1, start + 9, goal, 0):
                self.assertIs(rule(moment) <= goal, moment <= start)

    def test_values_are_at_most_a_goal_exactly_up_to_the_latest_start(self):
        for rule, value in small_rules(17):
            self.assert_bounded(rule, range(-15, 20))
        for rule, value in told_rules(random_tellings(7, 60, begins=SPREAD, length=4)):
            self.assert_bounded(rule, self.goals_of(rule, value))
            self.assert_bounded(rule, [GREAT, -GREAT, FAR // 2])

    def test_of_two_in_turn_that_of_the_second_one_and_then_that_of_the_first_one(self):
        for (one, _), (other, _) in pairs_of_rules(71, 73):
            self.assertTrue(~(one >> other) == ~other >> ~one)
        for (one, _), (other, _) in random_pairs(8, 2) + random_pairs(9, 1, begins=SPREAD, length=3):
            self.assertTrue(~(one >> other) == ~other >> ~one)


class ManyTimesTest(RuleCase):
    def test_small_rules(self):
        for rule, value in small_rules(31):
            whole = Rule.delay(rule.week, 0)
            for number in range(7):
                self.assertTrue(rule * number == whole)
                self.assertTrue(number * rule == whole)
                whole = whole >> rule

    def test_0_1_and_6_times(self):
        rule = Rule([1, 0], [(2, 3), (3, 2)])
        self.assertEqual((rule.base, rule.changes), ([1, 0], [(2, 3), (3, 2)]))
        self.assertEqual(((rule * 0).base, (rule * 0).changes), ([0, 0], []))
        self.assertEqual((0 * rule).week, 2)
        self.assertTrue(rule * 1 == rule)
        self.assertTrue(1 * rule == rule)
        self.assertEqual([(rule * 6)(at) for at in range(-2, 6)], [-1, -1, 1, 1, 15, 15, 17, 17])
        self.assertEqual([(6 * rule)(at) for at in (0, 2)], [1, 15])

    def test_far_apart_and_20_changes(self):
        for rule, value in told_rules(random_tellings(10, 12, begins=SPREAD, length=3, jump=FAR)):
            whole = rule * 6
            for moment in spots(rule.week, *[at for at, _ in rule.changes + whole.changes]):
                expected = moment
                for _ in range(6):
                    expected = value(expected)
                self.assertEqual(whole(moment), expected)

    def test_negative_numbers(self):
        rule = Rule([1, 0], [(2, 2), (3, 1)])
        for number in (-1, -6, -GREAT):
            self.assert_error(InvalidAmount, number, lambda one, many: one * many, rule, number)
            self.assert_error(InvalidAmount, number, lambda one, many: many * one, rule, number)


class WeekCheckTest(RuleCase):
    def test_unlike_weeks(self):
        for (one, _), (other, _) in product(small_rules(401), small_rules(509)):
            if one.week != other.week:
                for join in (*JOINS, in_turn, later_of, earlier_of):
                    self.assert_error(UnlikeWeeks, (one.week, other.week), join, one, other)
                    self.assert_error(UnlikeWeeks, (other.week, one.week), join, other, one)

    def test_each_other_rule_is_checked_against_the_first_one(self):
        one, two, three = Rule([1], []), Rule([0, 0], [(2, 1)]), Rule([0, 0, 0], [])
        for join in (in_turn, later_of, earlier_of):
            self.assert_error(UnlikeWeeks, (1, 2), join, one, two, three)
            self.assert_error(UnlikeWeeks, (1, 3), join, one, three, two)
            self.assert_error(UnlikeWeeks, (1, 3), join, one, one, three, two)
            self.assert_error(UnlikeWeeks, (1, 2), join, one, one, one, two)
            self.assert_error(UnlikeWeeks, (2, 3), join, two, two, three)

    def test_one_rule_alone_by_name(self):
        rule = Rule([1, 0], [(2, 2), (3, 1)])
        for join in (in_turn, later_of, earlier_of):
            self.assertTrue(join(rule=rule) == rule)


class UntouchedTest(RuleCase):
    def test_no_rule_changes(self):
        one, other = Rule([1, 0], [(2, 2), (3, 1)]), Rule([0, 0], [(-4, 1), (6, 2), (7, 1)])
        before = [(rule.base, rule.changes) for rule in (one, other)]
        for join in (*JOINS, in_turn, later_of, earlier_of):
            join(one, other)
            self.assertEqual([(rule.base, rule.changes) for rule in (one, other)], before)
        ~one, one * 3, 2 * other, one == other, 4 in one, one(5)
        self.assertEqual([(rule.base, rule.changes) for rule in (one, other)], before)


if __name__ == "__main__":
    unittest.main()
