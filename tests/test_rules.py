import unittest
from itertools import product

from dueclocks.calendars import Calendar
from dueclocks.errors import InvalidChange, InvalidWeek, NotRising
from dueclocks.rules import Rule
from tests.cases import RuleCase
from tests.rule_model import (
    FAR, GREAT, SPREAD, near, offset_function, plain_fall, random_tellings, small_rules,
    small_tellings, spots, told_rules, value_function,
)


class ConstructingTest(RuleCase):
    def assert_rule_error(self, kind, value, base, changes):
        self.assert_error(kind, value, Rule, base, changes)
        self.assert_error(kind, value, Rule, base, changes=changes)
        self.assert_error(kind, value, Rule, changes=changes, base=base)

    def test_by_position_and_by_name(self):
        for rule in (
            Rule([1, 0, 1], [(-1, 2), (5, 4), (6, 3), (7, 2)]),
            Rule([1, 0, 1], changes=[(-1, 2), (5, 4), (6, 3), (7, 2)]),
            Rule(changes=[(-1, 2), (5, 4), (6, 3), (7, 2)], base=[1, 0, 1]),
        ):
            self.assertEqual(rule.week, 3)
            self.assertEqual(rule.base, [1, 0, 1])
            self.assertEqual(rule.changes, [(-1, 2), (5, 4), (6, 3), (7, 2)])

    def test_bases_of_1_to_12_offsets(self):
        for number in range(1, 13):
            rule = Rule([7] * number, [])
            self.assertEqual((rule.week, rule.base, rule.changes), (number, [7] * number, []))

    def test_bases_that_are_too_short_or_too_long(self):
        for number in (0, 13, 14, 20):
            self.assert_rule_error(InvalidWeek, number, [0] * number, [])
            self.assert_rule_error(InvalidWeek, number, [5 * at for at in range(number)], [])

    def test_changes_that_do_not_ascend(self):
        for changes, index in (
            ([(3, 0), (3, 0)], 1),
            ([(3, 0), (2, 0)], 1),
            ([(-1, 0), (3, 0), (3, 1)], 2),
            ([(-1, 0), (3, 0), (-1, 0)], 2),
            ([(FAR, 0), (FAR - 1, 0)], 1),
            ([(0, 0), (-FAR, 0), (-FAR, 0)], 1),
            ([(at, 0) for at in range(23)] + [(22, 0)], 23),
        ):
            for base in ([0], [0, 0], [0] * 12):
                self.assert_rule_error(InvalidChange, index, base, changes)

    def test_small_rules_that_fall(self):
        found = 0
        for base, changes in small_tellings()[::3]:
            fall = plain_fall(value_function(base, changes), near(12))
            if fall is not None:
                found += 1
                self.assert_error(NotRising, fall, Rule, base, changes)
        self.assertGreater(found, 5000)

    def test_falls_far_away(self):
        for base, changes in small_tellings()[::17]:
            for number in (-FAR, FAR - 1, FAR, FAR + 1, -GREAT - 5):
                moved = [(at + number, offset) for at, offset in changes]
                moments = spots(len(base), *[at for at, _ in moved])
                fall = plain_fall(value_function(base, moved), moments)
                if fall is None:
                    self.assertEqual(Rule(base, moved).base, base)
                else:
                    self.assert_error(NotRising, fall, Rule, base, moved)

    def test_falls_that_recur_between_far_changes(self):
        for changes, fall in (
            ([(-FAR, 2)], 0),
            ([(-FAR, 2), (-FAR + 10, 0)], -FAR + 8),
            ([(-FAR, 2), (0, 0)], -2),
            ([(-FAR, 2), (FAR, 0)], 0),
            ([(FAR, 2)], FAR),
            ([(FAR + 1, 2)], FAR + 1),
            ([(-FAR - 1, 2), (-1, 0)], -3),
            ([(-FAR - 1, 2)], 1),
            ([(1 - FAR, -2), (2 - FAR, -2)], -FAR),
            ([(-FAR, -2)], 1),
            ([(-FAR, -2), (FAR, 0)], 1),
            ([(-FAR, -2), (-4, 0)], -7),
        ):
            self.assert_rule_error(NotRising, fall, [0, 0], changes)

    def test_of_two_falls_as_near_the_greater_one_counts(self):
        self.assert_rule_error(NotRising, 5, [0], [(-4, -2), (6, -4)])
        self.assert_rule_error(NotRising, -5, [0], [(-4, -2), (7, -4)])
        self.assert_rule_error(NotRising, 4, [0], [(-4, -2), (5, -4)])
        self.assert_rule_error(NotRising, FAR, [0], [(1 - FAR, -2), (FAR + 1, -4)])
        self.assert_rule_error(NotRising, -FAR, [0], [(1 - FAR, -2), (FAR + 2, -4)])

    def test_falls_of_the_base(self):
        self.assert_rule_error(NotRising, 0, [2, 0], [])
        self.assert_rule_error(NotRising, 1, [0, 2], [])
        self.assert_rule_error(NotRising, -1, [0, 0, 2], [])
        self.assert_rule_error(NotRising, 5, [0] * 5 + [2] + [0] * 5, [])
        self.assert_rule_error(NotRising, -5, [0] * 6 + [2] + [0] * 4, [])
        self.assert_rule_error(NotRising, 6, [0] * 6 + [2] + [0] * 5, [])
        self.assert_rule_error(NotRising, -GREAT - 3, [0, 2], [(-GREAT - 1, 0)])
        # The change hides the falls from 5 on, so that the next one is a week ahead.
        self.assert_rule_error(NotRising, -5, [0] * 5 + [2] + [0] * 4, [(5, 0)])

    def test_a_rule_may_stand_still_but_not_fall(self):
        self.assertEqual(Rule([0], [(3, -1)]).changes, [(3, -1)])
        self.assert_rule_error(NotRising, 2, [0], [(3, -2)])
        self.assertEqual(Rule([1, 0], []).base, [1, 0])
        self.assertEqual(Rule([0, 1], []).base, [0, 1])
        self.assertEqual(Rule([11 - at for at in range(12)], []).base[0], 11)
        self.assertEqual(Rule([0], [(-FAR, -1), (FAR, -2)]).changes, [(-FAR, -1), (FAR, -2)])

    def test_several_wrong_things_at_once(self):
        descending = [(0, 9), (0, 0)]
        self.assert_rule_error(InvalidWeek, 0, [], descending)
        self.assert_rule_error(InvalidWeek, 13, [9] + [0] * 12, descending)
        self.assert_rule_error(InvalidChange, 1, [9, 0], descending)
        self.assert_rule_error(InvalidChange, 2, [0], [(0, 9), (1, 0), (1, 1), (0, 1)])
        self.assert_rule_error(NotRising, 0, [0], [(0, 9), (1, 0), (7, 8), (8, 0)])

    def test_idle_changes_are_checked_too(self):
        self.assert_rule_error(InvalidChange, 1, [0], [(3, 0), (3, 0)])
        self.assert_rule_error(InvalidChange, 1, [0], [(3, 0), (2, 0)])

    def test_normal_forms_of_small_rules(self):
        for base, changes in small_tellings()[::5]:
            value = value_function(base, changes)
            if plain_fall(value, near(12)) is None:
                rule = Rule(base, changes)
                self.assertIs(type(rule.week), int)
                self.assertEqual(rule.week, len(base))
                self.assert_tells(rule, value, near(15))

    def test_idle_changes_are_left_out(self):
        rule = Rule([0, 0], [(-5, 0), (-4, 1), (-2, 1), (0, 0), (2, 0), (3, 0), (4, 1)])
        self.assertEqual(rule.changes, [(-4, 1), (0, 0), (4, 1)])
        self.assertEqual(Rule([4], [(at, 4) for at in range(24)]).changes, [])
        # A change ahead of it in its week makes the second one tell something.
        self.assertEqual(Rule([0, 0], [(0, 1), (2, 0)]).changes, [(0, 1), (2, 0)])
        self.assertEqual(Rule([0, 0], [(0, 1), (3, 0)]).changes, [(0, 1)])
        self.assertEqual(Rule([0, 0], [(FAR, 1), (GREAT, 1)]).changes, [(FAR, 1)])

    def test_24_changes(self):
        beside = [(at, 5 * at + 5) for at in range(-7, 17)]
        self.assertEqual(Rule([-40], beside).changes, beside)
        weekly = [(3 * at + 1, at % 2) for at in range(1, 25)]
        rule = Rule([0, 0, 0], weekly)
        self.assertEqual(rule.changes, weekly)
        self.assert_tells(rule, value_function([0, 0, 0], weekly), near(90))
        far = [(FAR * at, FAR * at) for at in range(-12, 12)]
        rule = Rule([-13 * FAR], far)
        self.assertEqual(rule.changes, far)
        moments = spots(1, *[at for at, _ in far])
        self.assert_tells(rule, value_function([-13 * FAR], far), moments)

    def test_random_rules(self):
        for base, changes in random_tellings(1, 200):
            self.assert_tells(Rule(base, changes), value_function(base, changes), near(70))

    def test_random_rules_with_changes_far_apart(self):
        for base, changes in random_tellings(2, 100, begins=SPREAD, length=4, jump=FAR):
            moments = spots(len(base), *[at for at, _ in changes])
            self.assert_tells(Rule(base, changes), value_function(base, changes), moments)

    def test_passed_lists_stay_and_are_not_kept(self):
        base, changes = [0, 1, 0], [(4, 2), (5, 1), (8, 1)]
        rule = Rule(base, changes)
        self.assertEqual((base, changes), ([0, 1, 0], [(4, 2), (5, 1), (8, 1)]))
        base[0] = 3
        base.append(5)
        changes[0] = (3, 2)
        changes.append((9, 2))
        self.assert_is_example(rule)

    def test_returned_lists_are_new(self):
        rule = Rule([0, 1, 0], [(4, 2), (5, 1), (8, 1)])
        rule.base[0] = 3
        rule.base.append(5)
        rule.changes[0] = (3, 2)
        rule.changes.clear()
        self.assert_is_example(rule)
        self.assertIsNot(rule.base, rule.base)
        self.assertIsNot(rule.changes, rule.changes)

    def assert_is_example(self, rule):
        self.assertEqual((rule.week, rule.base, rule.changes), (3, [0, 1, 0], [(4, 2), (5, 1)]))
        self.assertEqual([rule(at) for at in range(-3, 10)], [-3, -1, -1, 0, 2, 2, 3, 6, 6, 6, 9, 9, 9])
        self.assertTrue(rule == Rule([0, 1, 0], [(4, 2), (5, 1)]))

    def test_lists_passed_to_a_call_that_fails_stay(self):
        for changes in ([(4, 2), (4, 1)], [(4, 9), (5, 1)]):
            base, kept = [0, 1, 0], list(changes)
            with self.assertRaises(ValueError):
                Rule(base, changes)
            self.assertEqual((base, changes), ([0, 1, 0], kept))

    def test_kinds_of_properties(self):
        rule = Rule([0, 1, 0], [(4, 2), (5, 1)])
        kinds = [type(one) for one in (rule.week, rule.base, rule.changes, rule.changes[0])]
        self.assertEqual(kinds, [int, list, list, tuple])

    def test_returned_lists_may_be_passed_on(self):
        for rule, _ in small_rules(41):
            self.assertTrue(Rule(rule.base, rule.changes) == rule)


class ValuesTest(RuleCase):
    def test_small_rules(self):
        for rule, value in small_rules(3):
            for moment in range(-9, 13):
                self.assertEqual(rule(moment), value(moment))

    def test_by_position_and_by_name(self):
        rule = Rule([0, 1, 0], [(4, 2), (5, 1)])
        self.assertEqual([rule(4), rule(moment=4)], [6, 6])

    def test_at_beside_and_a_week_from_changes(self):
        rule = Rule([-1, 0, 0, 0], [(-6, 1), (-5, 0), (6, 3), (7, 2), (8, 1), (9, 0), (10, 0)])
        told = {
            -10: 0, -7: 0, -6: 1, -5: 0, -4: -1, -3: 0, -2: 1, 2: 1, 4: -1, 5: 0, 6: 3, 7: 2,
            8: 1, 9: 0, 10: 0, 11: 2, 12: 1, 14: 0,
        }
        self.assertEqual({at: rule(at) - at for at in told}, told)

    def test_far_moments(self):
        base, changes = [0, 1, 0], [(-FAR, 1), (1 - FAR, 0), (FAR, FAR), (FAR + 1, FAR), (FAR + 2, FAR)]
        rule, offset = Rule(base, changes), offset_function(base, changes)
        for moment in (*spots(3, -FAR, FAR), GREAT, GREAT + 1, GREAT + 2, -GREAT, -GREAT - 1):
            self.assertEqual(rule(moment), moment + offset(moment))
        self.assertEqual([rule(GREAT), rule(-GREAT), rule(FAR + 2)], [GREAT + FAR, -GREAT, 2 * FAR + 2])
        self.assertEqual(GREAT % 3, 1)
        self.assertEqual([rule(3 * GREAT), rule(2 - GREAT), rule(1 - GREAT)], [3 * GREAT + FAR, 3 - GREAT, 1 - GREAT])

    def test_great_offsets(self):
        rule = Rule([-GREAT], [(-GREAT, -GREAT + 5), (GREAT, GREAT)])
        self.assertEqual([rule(-GREAT - 1), rule(-GREAT)], [-2 * GREAT - 1, -2 * GREAT + 5])
        self.assertEqual([rule(GREAT - 1), rule(GREAT)], [4, 2 * GREAT])


class ContainsTest(RuleCase):
    def test_small_rules(self):
        for rule, value in small_rules():
            reached = {value(at) for at in range(-20, 24)}
            for moment in range(-9, 13):
                self.assertIs(moment in rule, moment in reached)
                self.assertIs(moment not in rule, moment not in reached)

    def test_random_rules(self):
        for rule, value in told_rules(random_tellings(3, 150)):
            reached = {value(at) for at in range(-150, 90)}
            for moment in range(-40, 60):
                self.assertIs(moment in rule, moment in reached)

    def test_far_moments_and_great_jumps(self):
        rule = Rule([0], [(-FAR, 2), (0, FAR), (FAR, 2 * FAR)])
        inside = (
            -GREAT, -FAR - 1, -FAR + 2, 1, FAR, FAR + 1, 2 * FAR - 1, 3 * FAR, GREAT, 4 * FAR,
        )
        outside = (-FAR, -FAR + 1, 2, FAR - 1, 2 * FAR, 2 * FAR + 1, 3 * FAR - 1, 2 * FAR + FAR // 2)
        self.assertEqual([at in rule for at in inside], [True] * len(inside))
        self.assertEqual([at in rule for at in outside], [False] * len(outside))

    def test_values_far_away_are_inside(self):
        for rule, value in told_rules(random_tellings(4, 60, begins=SPREAD, length=4, jump=FAR)):
            moments = spots(rule.week, -FAR, FAR, -GREAT)
            for moment in moments:
                self.assertTrue(value(moment) in rule)
            for moment in moments:
                for goal in range(value(moment) + 1, min(value(moment + 1), value(moment) + 3)):
                    self.assertFalse(goal in rule)


class EqualityTest(RuleCase):
    def assert_equal(self, one, other, alike):
        self.assertIs(one == other, alike)
        self.assertIs(other == one, alike)
        self.assertIs(one != other, not alike)
        self.assertIs(
            (one.week, one.base, one.changes) == (other.week, other.base, other.changes), alike
        )

    def test_small_rules(self):
        for (one, value), (other, other_value) in product(small_rules(31), small_rules(67)):
            alike = one.week == other.week and all(
                value(at) == other_value(at) for at in range(-12, 13)
            )
            self.assert_equal(one, other, alike)

    def test_idle_changes_do_not_count(self):
        rule = Rule([0, 1], [(1, 0), (2, -1)])
        self.assert_equal(rule, Rule([0, 1], [(-2, 0), (-1, 1), (1, 0), (2, -1), (3, 0)]), True)
        self.assert_equal(rule, Rule([0, 1], [(1, 0), (2, -1), (FAR, -1)]), True)

    def test_one_value_other(self):
        rule = Rule([0, 0], [(4, 1), (6, 0)])
        self.assert_equal(rule, Rule([0, 0], []), False)
        self.assert_equal(rule, Rule([0, 0], [(4, 1)]), False)
        self.assert_equal(rule, Rule([0, 0], [(2, 1), (4, 0)]), False)
        self.assert_equal(rule, Rule([0, 0], [(4, -1), (6, 0)]), False)
        self.assert_equal(Rule([0], [(FAR, 1)]), Rule([0], []), False)
        self.assert_equal(Rule([0], [(FAR, 1)]), Rule([0], [(FAR + 1, 1)]), False)
        self.assert_equal(Rule([0], [(-FAR, 1)]), Rule([1], []), False)

    def test_rules_of_unlike_weeks(self):
        self.assert_equal(Rule([0], []), Rule([0, 0], []), False)
        self.assert_equal(Rule([1, 0], []), Rule([1, 0, 1, 0], []), False)
        self.assert_equal(Rule([1, 0, 1, 0], []), Rule([1, 0, 1, 0], []), True)

    def test_not_equal_to_anything_else(self):
        rule = Rule([1, 0], [])
        for other in (
            Calendar([1, 0], []), [1, 0], ([1, 0], []), (1, 0), [], 1, 0, "1 0 / -", "", None,
            True, {}, 1 << 100,
        ):
            self.assertIs(rule == other, False)
            self.assertIs(other == rule, False)
            self.assertIs(rule != other, True)


if __name__ == "__main__":
    unittest.main()
