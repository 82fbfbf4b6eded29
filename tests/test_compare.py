import unittest
from itertools import product

from dueclocks.calendars import Calendar
from dueclocks.compare import (
    first_later, followed, is_wait, parting, parting_in_turn, soonest,
)
from dueclocks.errors import UnlikeWeeks
from dueclocks.rules import Rule
from tests import model
from tests.cases import RuleCase
from tests.rule_model import (
    FAR, GREAT, SPREAD, first_of, near, offsets_of, pairs_of_rules, plain_latest, random_pairs,
    random_tellings, small_rules, told_rules, turning_spots,
)


class PartingTest(RuleCase):
    def assert_first(self, one, other, moments):
        (one, value), (other, other_value) = one, other
        self.assertEqual(
            parting(one, other), first_of(moments, lambda at: value(at) != other_value(at))
        )
        self.assertEqual(
            first_later(one, other), first_of(moments, lambda at: value(at) > other_value(at))
        )
        self.assertEqual(
            first_later(other, one), first_of(moments, lambda at: value(at) < other_value(at))
        )

    def test_small_rules(self):
        for one, other in pairs_of_rules(41, 29):
            self.assert_first(one, other, near(15))

    def test_rules_that_part_at_changes_alone(self):
        for base in ([0], [1, 0], [0, 1, 0], [0, 0, 0]):
            some = [pair for pair in small_rules() if pair[0].base == base]
            self.assertGreater(len(some), 9)
            for one, other in product(some[::5], some[::7]):
                self.assert_first(one, other, near(15))

    def test_random_rules_also_far_apart(self):
        pairs = random_pairs(11, 6) + random_pairs(12, 4, begins=SPREAD, length=3, jump=FAR)
        for one, other in pairs:
            self.assert_first(one, other, turning_spots(one[0], other[0]))
            whole = one[0] | other[0]
            joined = (whole, lambda at: max(one[1](at), other[1](at)))
            self.assert_first(joined, other, turning_spots(one[0], other[0]))

    def test_by_position_and_by_name(self):
        one, other = Rule([0, 0], []), Rule([0, 0], [(3, 1), (7, -1), (9, 0)])
        self.assert_answers(3, parting, one, other)
        self.assert_answers(7, first_later, one, other)
        self.assert_answers(3, first_later, other, one)

    def test_none(self):
        one, other = Rule([0, 0], [(2, 0)]), Rule([0, 0], [])
        self.assert_answers(None, parting, one, other)
        self.assert_answers(None, first_later, one, other)
        self.assert_answers(None, first_later, one, Rule([1, 0], [(FAR, 2), (FAR + 1, 1)]))
        self.assert_answers(None, parting, one, one)

    def assert_parting(self, moment, base, changes, other_base, other_changes):
        one, other = Rule(base, changes), Rule(other_base, other_changes)
        self.assertEqual(parting(one, other), moment)
        self.assertEqual(parting(other, one), moment)
        self.assertIn(moment, (first_later(one, other), first_later(other, one)))

    def test_far_away(self):
        plain = [0, 0, 0]
        self.assert_parting(FAR, plain, [], plain, [(FAR, 1)])
        self.assert_parting(-FAR, plain, [], plain, [(-FAR, 1), (3 - FAR, 0)])
        self.assert_parting(-FAR, plain, [], plain, [(-FAR, 1), (3 - FAR, 0), (FAR + 1, 1)])
        # Of the moments behind a far change the nearest one counts.
        self.assert_parting(0, plain, [], plain, [(1 - FAR, 1)])
        self.assert_parting(-1, plain, [], plain, [(2 - 3 * FAR, 1)])
        self.assert_parting(FAR + 1, plain, [(FAR, 1)], plain, [(FAR, 1), (FAR + 1, 1)])

    def test_between_changes_ahead_of_all_and_behind_all(self):
        # They part from 3 - 3 * FAR to -1 alone, each three moments.
        self.assert_parting(-3, [0, 0, 0], [(-3 * FAR, 1), (0, 0)], [0, 0, 0], [])
        self.assert_parting(-3 * FAR, [0, 0, 0], [(-3 * FAR, 1), (3 - 3 * FAR, 0)], [0, 0, 0], [])
        # Ahead of all changes, and behind them:
        ahead, behind = [(5 - FAR, 0), (6 - FAR, 0)], [(FAR + 5, 1), (FAR + 6, 1)]
        self.assert_parting(4 - FAR, [0, 0], [], [1, 1], ahead)
        self.assert_parting(FAR + 5, [0, 0], [], [0, 0], behind)
        self.assert_parting(4 - FAR, [0, 0], [], [1, 1], ahead + behind)

    def test_of_two_moments_as_near_the_greater_one_counts(self):
        for far in (5, FAR + 5):
            one = Rule([0], [(-far, 1), (1 - far, 0), (far, 1), (far + 1, 0)])
            self.assertEqual(parting(one, Rule([0], [])), far)
            self.assertEqual(first_later(one, Rule([0], [])), far)
            one = Rule([0], [(-far, 1), (1 - far, 0), (far + 1, 1)])
            self.assertEqual(parting(one, Rule([0], [])), -far)
            self.assertEqual(first_later(one, Rule([0], [])), -far)
        self.assertEqual(parting(Rule([0, 1], []), Rule([0, 0], [])), 1)
        self.assertEqual(first_later(Rule([0, 1], []), Rule([0, 0], [])), 1)


class PartingInTurnTest(RuleCase):
    def assert_first(self, one, other, moments):
        (one, value), (other, other_value) = one, other
        expected = first_of(moments, lambda at: other_value(value(at)) != value(other_value(at)))
        self.assertEqual(parting_in_turn(one, other), expected)
        self.assertEqual(parting_in_turn(other, one), expected)

    def test_small_rules(self):
        for one, other in pairs_of_rules(61, 67):
            self.assert_first(one, other, near(25))

    def test_random_rules_also_far_apart(self):
        pairs = random_pairs(13, 4) + random_pairs(14, 2, begins=SPREAD, length=3, jump=FAR)
        for one, other in pairs:
            moments = sorted(
                {*turning_spots(one[0], other[0]), *turning_spots(other[0], one[0])},
                key=lambda at: (abs(at), -at),
            )
            self.assert_first(one, other, moments)

    def test_by_position_and_by_name(self):
        one, other = Rule([0, 0], [(4, 1), (5, 0)]), Rule([1, 1], [])
        self.assert_answers(3, parting_in_turn, one, other)
        self.assert_answers(0, parting_in_turn, Rule([1, 0], []), other)
        self.assert_answers(None, parting_in_turn, Rule([1, 0], []), one)

    def test_none(self):
        rule = Rule([1, 0], [(FAR, 3), (FAR + 1, 2)])
        for other in (rule, rule * 2, rule >> rule >> rule, Rule.delay(2, 0)):
            self.assert_answers(None, parting_in_turn, rule, other)
        self.assert_answers(None, parting_in_turn, Rule([1, 0], []), Rule.delay(2, 4))

    def test_where_only_one_rule_has_changes(self):
        for far in (FAR, -FAR):
            rule = Rule([0, 0, 0], [(far + at, 1) for at in range(3)])
            self.assertEqual(parting_in_turn(rule, Rule.delay(3, 1)), far - 1)
            self.assertEqual(parting_in_turn(Rule.delay(3, -2), rule), far + (far < 0))
            step = Rule([0, 0], [(far, 2), (far + 1, 2)])
            self.assertEqual(parting_in_turn(step, Rule.delay(2, 2)), far - 1 - (far > 0))
        rule = Rule([0], [(5, FAR)])
        self.assertEqual(parting_in_turn(rule, Rule.delay(1, FAR)), 0)
        self.assertEqual(parting_in_turn(rule, Rule.delay(1, -FAR)), 5)
        self.assertEqual(parting_in_turn(Rule([0], [(FAR, 1)]), Rule.delay(1, FAR - 1)), 1)

    def test_a_hundred_changes(self):
        one = Rule([0] * 12, [(at + FAR, 5 + at // 12) for at in range(120)])
        other = Rule([0] * 12, [(at + FAR, 7 + at // 20) for at in range(120)])
        self.assertEqual(parting_in_turn(one, one * 2), None)
        expected = first_of(
            range(FAR - 300, FAR + 300), lambda at: other(one(at)) != one(other(at))
        )
        self.assertEqual(parting_in_turn(one, other), expected)


class FollowedTest(RuleCase):
    def test_what_follows_is_found_and_least(self):
        for (one, value), (other, other_value) in pairs_of_rules(59, 43):
            whole = one >> other
            found = followed(one, whole)
            self.assertTrue(one >> found == whole)
            self.assertTrue(all(found(at) <= other_value(at) for at in range(-25, 26)))
            self.assertIsNone(first_later(found, other))
            least = min(offsets_of(one))
            self.assert_tells(
                found,
                lambda at: other_value(value(plain_latest(value, at, at - least))),
                near(25),
            )

    def test_with_and_without_such_a_rule(self):
        many = {True: 0, False: 0}
        for (one, value), (whole, whole_value) in pairs_of_rules(53, 31):
            torn = any(
                value(at) == value(at + 1) and whole_value(at) != whole_value(at + 1)
                for at in range(-25, 26)
            )
            many[torn] += 1
            found = followed(one, whole)
            self.assertIs(found is None, torn)
            if found is not None:
                self.assertTrue(one >> found == whole)
        self.assertGreater(min(many.values()), 500)

    def test_the_least_of_all_such_rules(self):
        for week in (1, 2):
            all_rules = [rule for rule, _ in small_rules(7) if rule.week == week]
            for one, whole in product(all_rules[::11], all_rules[::13]):
                such = [rule for rule in all_rules if one >> rule == whole]
                if such:
                    found = followed(one, whole)
                    for rule in such:
                        self.assertTrue(all(found(at) <= rule(at) for at in range(-15, 16)))

    def test_a_torn_value_far_away(self):
        for at in (-FAR, FAR, 7):
            still = Rule([0, 0], [(at, -1), (at + 2, 0)])
            self.assertEqual(still(at), still(at - 1))
            self.assertIsNone(followed(still, Rule.delay(2, 3)))
            self.assertTrue(followed(still, still) == Rule([0, 0], [(at, -1), (at + 2, 0)]))
            self.assertTrue(followed(Rule.delay(2, -9), still) == Rule.delay(2, 9) >> still)
            # The other rule rises anew two moments behind, where its own change is.
            early = Rule([0, 0], [(at, 2), (at + 1, 1), (at + 2, 0)])
            self.assertEqual([early(at + step) - at for step in (-1, 0, 1, 2)], [-1, 2, 2, 2])
            self.assertIsNone(followed(early, Rule([0, 0], [(at, 2), (at + 1, 1), (at + 2, 2), (at + 3, 1)])))

    def test_the_base_may_be_torn_as_well(self):
        steps = Rule([1, 0], [(FAR, 0)])
        self.assertIsNone(followed(steps, Rule.delay(2, 0)))
        self.assertIsNone(followed(Rule([0, 0], [(FAR, 1)]), Rule.delay(2, 0)))
        self.assertTrue(followed(Rule([1, 0], []), Rule([3, 2], [])) == Rule([1, 2], []))

    def test_by_position_and_by_name(self):
        one, whole = Rule([0, 0], [(4, 3), (5, 2)]), Rule([1, 1], [(4, 6), (5, 5)])
        least = Rule([1, 1], [(4, 0), (5, -1), (6, -2), (7, 3), (8, 2)])
        self.assertTrue(one >> least == whole)
        self.assert_answers(least, followed, one, whole)
        self.assert_answers(None, followed, Rule([1, 0], []), one)


class SoonestTest(RuleCase):
    def assert_soonest(self, rule, value, goals):
        least = min(offsets_of(rule))
        self.assert_tells(
            soonest(rule),
            lambda goal: plain_latest(value, goal - 1, goal - least) + 1,
            goals,
        )

    def test_small_rules(self):
        for rule, value in small_rules(5):
            self.assert_soonest(rule, value, near(20))

    def test_random_rules_also_far_apart(self):
        for jump, begins in ((9, ((-20, 0),)), (100, ((-20, 0),)), (9, SPREAD)):
            for rule, value in told_rules(random_tellings(15, 15, begins=begins, length=4, jump=jump)):
                step = 2 * rule.week + 1
                edges = [(value(at - step), value(at + step)) for at in [0] + [at for at, _ in rule.changes]]
                goals = sorted({goal for low, high in edges for goal in range(low - 3, high + 4)})
                self.assert_soonest(rule, value, goals)

    def test_least_moment_with_a_value_that_is_at_least_the_goal(self):
        for rule, value in small_rules(23):
            early = soonest(rule)
            for goal in range(-9, 12):
                self.assertGreaterEqual(value(early(goal)), goal)
                self.assertLess(value(early(goal) - 1), goal)

    def test_by_position_and_by_name(self):
        rule = Rule([1, 0], [(4, 3), (5, 2)])
        self.assertEqual([soonest(rule)(at) for at in range(0, 11)], [0, 0, 2, 2, 4, 4, 4, 4, 6, 6, 8])
        self.assert_answers(soonest(rule), soonest, rule)


class IsWaitTest(RuleCase):
    def test_small_rules(self):
        many = {True: 0, False: 0}
        for rule, value in small_rules():
            waiting = all(
                value(at) >= at and value(value(at)) == value(at) for at in range(-15, 16)
            )
            many[waiting] += 1
            self.assertIs(is_wait(rule), waiting)
        self.assertGreater(min(many.values()), 20)

    def test_openings(self):
        for calendar, _ in model.small_calendars(101):
            for number in (0, FAR, -FAR):
                self.assertIs(is_wait(Rule.opening(calendar.moved(number))), True)

    def test_delays(self):
        for week, number in product((1, 7, 12), (-GREAT, -7, -1, 0, 1, 12, GREAT)):
            self.assertIs(is_wait(Rule.delay(week, number)), number == 0)

    def test_promises(self):
        for calendar, _ in model.small_calendars(301):
            for amount in (0, 1, 5, FAR):
                self.assertIs(is_wait(Rule.promise(calendar, amount)), amount == 0)

    def test_far_changes(self):
        self.assertIs(is_wait(Rule([0, 0], [(FAR, 1), (FAR + 2, 0)])), True)
        self.assertIs(is_wait(Rule([0, 0], [(FAR, 1), (FAR + 1, 1), (FAR + 2, 0), (FAR + 3, 0)])), False)
        self.assertIs(is_wait(Rule([0, 0], [(-FAR, -1), (2 - FAR, 0)])), False)
        # Its values are values of itself again, but they go back.
        back = Rule([0, -1], [])
        self.assertTrue(back >> back == back)
        self.assertIs(is_wait(back), False)

    def test_by_position_and_by_name(self):
        desk = Calendar([1, 1, 0], [(4, 0)])
        self.assert_answers(True, is_wait, Rule.opening(desk))
        self.assert_answers(False, is_wait, Rule.promise(desk, 1))


class ErrorsTest(RuleCase):
    def test_unlike_weeks(self):
        for (one, _), (other, _) in product(small_rules(601), small_rules(701)):
            if one.week != other.week:
                for call in (parting, first_later, parting_in_turn, followed):
                    self.assert_errors(UnlikeWeeks, (one.week, other.week), call, one, other)
                    self.assert_errors(UnlikeWeeks, (other.week, one.week), call, other, one)

    def test_no_call_changes_a_rule(self):
        one, other = Rule([1, 0], [(4, 3), (5, 2)]), Rule([0, 0], [(4, 1), (5, 0)])
        before = [(rule.base, rule.changes) for rule in (one, other)]
        for call in (parting, first_later, parting_in_turn, followed):
            call(one, other)
        soonest(one)
        is_wait(one)
        self.assertEqual([(rule.base, rule.changes) for rule in (one, other)], before)


if __name__ == "__main__":
    unittest.main()
