import unittest
from itertools import product

from dueclocks.errors import InvalidAmount, InvalidSpan
from dueclocks.reached import count_reached, first_missed, nth_reached, starts
from dueclocks.rules import Rule
from tests.cases import RuleCase
from tests.rule_model import FAR, GREAT, SPREAD, random_tellings, small_rules, told_rules

NEAR = [(rule, value, -30, 60) for rule, value in small_rules(7)]
RANDOM = [(rule, value, -150, 90) for rule, value in told_rules(random_tellings(31, 80))]


def example():
    """Return a rule that misses each third moment, and 7, 8 and all from 10 to FAR + 8."""
    return Rule([1, 0, 1], [(6, 3), (7, 2), (8, 1), (9, FAR), (10, FAR), (11, FAR)])


class StartsTest(RuleCase):
    def test_near_moments(self):
        for rule, value, begin, end in NEAR + RANDOM:
            found = {}
            for at in range(begin, end):
                found.setdefault(value(at), []).append(at)
            for moment in range(-12, 16):
                told = found.get(moment)
                expected = told and (told[0], told[-1])
                self.assertEqual(starts(rule, moment), expected)
                if told:
                    self.assertIs(type(starts(rule, moment)), tuple)

    def test_by_position_and_by_name(self):
        self.assert_answers((0, 1), starts, example(), 1)
        self.assert_answers((2, 2), starts, example(), 3)
        self.assert_answers(None, starts, example(), 2)

    def test_one_start_and_several(self):
        self.assertEqual(
            [starts(example(), at) for at in (-1, 4, 5, 8, 9, 10, 11)],
            [None, (3, 4), None, None, (6, 8), None, None],
        )
        self.assertEqual(
            [starts(example(), FAR + at) for at in (8, 9, 10, 11, 12)],
            [None, (9, 9), (10, 10), (11, 11), (12, 12)],
        )
        still = Rule([0], [(at, -at) for at in range(1, 12)])
        self.assertEqual([starts(still, at) for at in (-1, 0, 1)], [(-1, -1), (0, 11), (12, 12)])

    def test_far_moments(self):
        self.assertEqual([starts(example(), -3 * FAR + at) for at in (0, 1, 2)],
                         [(-3 * FAR - 1, -3 * FAR - 1), (-3 * FAR, -3 * FAR + 1), None])
        self.assertEqual(starts(example(), GREAT), (GREAT - FAR, GREAT - FAR))
        self.assertIsNone(starts(Rule([-GREAT], [(0, GREAT)]), 0))
        self.assertEqual(starts(Rule([-GREAT], [(0, GREAT)]), -GREAT - 1), (-1, -1))
        self.assertEqual(starts(Rule([-GREAT], [(0, GREAT)]), GREAT), (0, 0))

    def test_first_and_last_start_of_values_far_away(self):
        for rule, value in told_rules(random_tellings(32, 60, begins=SPREAD, length=5, jump=FAR)):
            for start in [at + step for at, _ in rule.changes for step in (-1, 0, 1)]:
                first, last = starts(rule, value(start))
                self.assertLessEqual(first, start)
                self.assertLessEqual(start, last)
                self.assertEqual([value(first), value(last)], [value(start)] * 2)
                self.assertLess(value(first - 1), value(start))
                self.assertGreater(value(last + 1), value(start))


class CountReachedTest(RuleCase):
    def test_near_moments(self):
        for rule, value, begin, end in NEAR + RANDOM:
            reached = {value(at) for at in range(begin, end)}
            for low, high in product(range(-10, 8, 3), (0, 1, 2, 5, 9)):
                expected = len([at for at in range(low, low + high) if at in reached])
                self.assertEqual(count_reached(rule, low, low + high), expected)

    def test_by_position_and_by_name(self):
        self.assert_answers(7, count_reached, example(), -2, 10)

    def test_empty_spans(self):
        for moment in (-GREAT, -1, 0, 1, 2, 9, FAR, GREAT):
            self.assert_answers(0, count_reached, example(), moment, moment)

    def test_begin_counts_and_end_does_not(self):
        self.assertEqual([count_reached(example(), at, at + 1) for at in (8, 9, 10)], [0, 1, 0])
        self.assertEqual([count_reached(example(), at, 10) for at in (8, 9, 10)], [1, 1, 0])

    def test_great_spans(self):
        # Of each week ahead of 6 two moments are reached; from 9 on all, FAR moments behind.
        self.assertEqual(count_reached(example(), -3 * FAR, 0), 2 * FAR)
        self.assertEqual(count_reached(example(), -3 * FAR, FAR), 2 * FAR + 6)
        self.assertEqual(count_reached(example(), -3 * FAR, GREAT), 2 * FAR + 6 + GREAT - FAR - 9)
        self.assertEqual(count_reached(example(), 10, FAR + 9), 0)
        self.assertEqual(count_reached(example(), 10, FAR + 10), 1)
        self.assertEqual(count_reached(Rule.delay(5, GREAT), -FAR, FAR), 2 * FAR)
        self.assertEqual(count_reached(Rule([0], [(-FAR, 3), (FAR, 9)]), -GREAT, GREAT), 2 * GREAT - 9)

    def test_ends_ahead_of_begins(self):
        for begin, end in ((1, 0), (0, -1), (FAR, FAR - 1), (GREAT, -GREAT)):
            self.assert_errors(InvalidSpan, (begin, end), count_reached, example(), begin, end)


class NthReachedTest(RuleCase):
    def test_near_moments(self):
        for rule, value, begin, end in NEAR + RANDOM:
            reached = sorted({value(at) for at in range(begin, end)})
            for low in range(-10, 11, 4):
                found = [at for at in reached if at >= low]
                for index in (0, 1, 2, 3, 7):
                    self.assertEqual(nth_reached(rule, low, index), found[index])

    def test_by_position_and_by_name(self):
        self.assert_answers(1, nth_reached, example(), 0, 1)

    def test_begin_itself_counts(self):
        self.assertEqual([nth_reached(example(), at, 0) for at in (8, 9, 10)], [9, 9, FAR + 9])

    def test_great_indexes(self):
        self.assertEqual([nth_reached(example(), 0, at) for at in range(7)], [0, 1, 3, 4, 6, 9, FAR + 9])
        self.assertEqual(nth_reached(example(), 0, FAR), 2 * FAR + 3)
        self.assertEqual(nth_reached(example(), -3 * FAR, 2 * FAR - 1), -2)
        self.assertEqual(nth_reached(example(), -3 * FAR, 2 * FAR), 0)
        self.assertEqual(nth_reached(example(), -3 * FAR, FAR), -3 * FAR // 2)
        self.assertEqual(nth_reached(example(), -3 * FAR, GREAT), GREAT - FAR + 3)
        self.assertEqual(nth_reached(Rule.delay(5, GREAT), -FAR, FAR), 0)

    def test_great_indexes_beside_counts(self):
        for rule, _ in told_rules(random_tellings(33, 40, begins=SPREAD, length=4, jump=FAR)):
            for begin, index in product((-3 * FAR, -7, FAR + 3), (0, 5, FAR - 1, FAR)):
                moment = nth_reached(rule, begin, index)
                self.assertIn(moment, rule)
                self.assertEqual(count_reached(rule, begin, moment), index)

    def test_negative_indexes(self):
        for index in (-1, -2, -GREAT):
            self.assert_errors(InvalidAmount, index, nth_reached, example(), 0, index)


class FirstMissedTest(RuleCase):
    def test_small_rules(self):
        found = 0
        for rule, value in small_rules():
            reached = {value(at) for at in range(-40, 44)}
            outwards = [0] + [at for far in range(1, 25) for at in (far, -far)]
            expected = next((at for at in outwards if at not in reached), None)
            found += expected is None
            self.assertEqual(first_missed(rule), expected)
        self.assertGreater(found, 20)

    def test_random_rules(self):
        for rule, value, begin, end in RANDOM:
            reached = {value(at) for at in range(begin, end)}
            outwards = [0] + [at for far in range(1, 60) for at in (far, -far)]
            self.assertEqual(
                first_missed(rule), next((at for at in outwards if at not in reached), None)
            )

    def test_by_position_and_by_name(self):
        self.assert_answers(-1, first_missed, example())

    def test_none(self):
        for rule in (
            Rule.delay(5, -7), Rule.delay(1, GREAT), Rule([0], [(FAR, -1), (GREAT, -2)]),
            Rule([0, 0], [(3, -1), (4, -1)]),
        ):
            self.assert_answers(None, first_missed, rule)

    def test_far_moments(self):
        for changes, moment in (
            ([(FAR, 1)], FAR),
            ([(FAR, 5)], FAR),
            ([(-FAR, 5)], -FAR + 4),
            ([(-FAR, 5), (FAR, 6)], -FAR + 4),
            ([(-FAR, 5), (FAR - 9, 6)], FAR - 4),
            ([(-FAR, 5), (FAR - 10, 6)], FAR - 5),
            ([(-FAR, 1), (FAR - 1, 2)], FAR),
            ([(-FAR, 1), (FAR, 2)], -FAR),
            ([(5, FAR)], 5),
            ([(-5, FAR)], 0),
            ([(-FAR, FAR + 4)], 0),
            ([(-FAR, FAR - 4)], -5),
            ([(-FAR, GREAT)], 0),
        ):
            self.assertEqual(first_missed(Rule([0], changes)), moment)
        self.assertEqual(first_missed(Rule([0, 0, 0], [(-FAR, 1), (2, 1)])), -1)
        self.assertEqual(first_missed(Rule([GREAT] * 3, [(-GREAT, GREAT + 1)])), 0)
        self.assertEqual(first_missed(Rule([-GREAT], [(0, GREAT)])), 0)
        self.assertEqual(first_missed(Rule([-GREAT], [(GREAT + 7, 1 - GREAT)])), 7)

    def test_of_two_moments_as_near_the_greater_one_counts(self):
        self.assertEqual(first_missed(Rule([0], [(-7, 1), (6, 2)])), 7)
        self.assertEqual(first_missed(Rule([0], [(-7, 1), (7, 2)])), -7)
        self.assertEqual(first_missed(Rule([0], [(-7, 3), (4, 4)])), -5)
        self.assertEqual(first_missed(Rule([0], [(-7, 3), (2, 4)])), 5)


class UntouchedTest(RuleCase):
    def test_no_call_changes_a_rule(self):
        rule = example()
        starts(rule, 4)
        count_reached(rule, -9, 9)
        nth_reached(rule, -9, 30)
        first_missed(rule)
        self.assertEqual((rule.base, rule.changes), (example().base, example().changes))


if __name__ == "__main__":
    unittest.main()
