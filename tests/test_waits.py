import unittest
from itertools import product

from dueclocks.errors import InvalidAmount, InvalidSpan
from dueclocks.rules import Rule
from dueclocks.waits import (
    count_waits, greatest_wait, least_wait, nth_wait, sum_waits, waits_from,
)
from tests.cases import RuleCase
from tests.rule_model import (
    FAR, GREAT, SPREAD, first_of, near, random_tellings, small_rules, spots, told_rules,
)


def example():
    """Return a rule with the wait 3, but 5 and 4 at 2 and 3, and then 0 at odd moments."""
    return Rule([3, 3], [(2, 5), (3, 4), (4, 3), (5, 2), (6, 1), (7, 0)])


class LeastAndGreatestTest(RuleCase):
    def assert_waits(self, rule, value, moments):
        """Least and greatest wait are those that stand among the moments, nearest first."""
        waits = [value(at) - at for at in moments]
        for call, wait in ((least_wait, min(waits)), (greatest_wait, max(waits))):
            first = first_of(moments, lambda at: value(at) - at == wait)
            self.assertEqual(call(rule), (wait, first))
            self.assertIs(type(call(rule)), tuple)

    def test_small_rules(self):
        for rule, value in small_rules():
            self.assert_waits(rule, value, near(12))

    def test_random_rules_also_far_apart(self):
        for begins, jump in ((((-20, 10),), 9), (SPREAD, 9), (SPREAD, FAR)):
            for rule, value in told_rules(random_tellings(21, 80, begins=begins, length=5, jump=jump)):
                moments = spots(rule.week, *[at for at, _ in rule.changes])
                self.assert_waits(rule, value, moments)

    def test_below_0(self):
        rule = Rule([-3, -3], [(4, -4), (5, -4), (6, -3), (7, -3)])
        self.assert_answers((-4, 4), least_wait, rule)
        self.assert_answers((-3, 0), greatest_wait, rule)
        self.assert_answers((-GREAT, 0), least_wait, Rule.delay(12, -GREAT))

    def test_nearest_moments(self):
        both = [(-6, 1), (-5, 0), (6, 1), (7, 0)]
        self.assert_answers((1, 6), greatest_wait, Rule([0], both))
        self.assert_answers((1, -6), greatest_wait, Rule([0], both[:2] + [(7, 1), (8, 0)]))
        self.assert_answers((-1, 6), least_wait, Rule([0], [(-6, -1), (-5, 0), (6, -1), (7, 0)]))
        # Behind a far change, ahead of one, and between two:
        self.assert_answers((1, 2), greatest_wait, Rule([0, 0, 0], [(2 - 3 * FAR, 1), (-1, 0), (2, 1)]))
        self.assert_answers((1, -1), greatest_wait, Rule([0, 0, 0], [(2 - 3 * FAR, 1)]))
        self.assert_answers((0, -FAR - 1), least_wait, Rule([0], [(-FAR, 2)]))
        self.assert_answers((2, FAR), greatest_wait, Rule([0], [(FAR, 2)]))
        self.assert_answers((0, 0), least_wait, Rule([0], [(FAR, 2)]))
        self.assert_answers((2, -5), greatest_wait, Rule([0], [(-FAR, 2), (-4, 1), (-3, 0)]))


class CountAndSumTest(RuleCase):
    def assert_span(self, rule, value, begin, end, waits):
        found = [value(at) - at for at in range(begin, end)]
        for wait in waits:
            self.assertEqual(count_waits(rule, begin, end, wait), found.count(wait))
        self.assertEqual(sum_waits(rule, begin, end), sum(found))

    def test_small_rules(self):
        for rule, value in small_rules(13):
            for begin in range(-8, 6, 3):
                for end in (*range(begin, begin + 5), 9, 14):
                    self.assert_span(rule, value, begin, end, range(-3, 5))

    def test_random_rules(self):
        for rule, value in told_rules(random_tellings(22, 60)):
            waits = [-99, *{*rule.base, *[offset for _, offset in rule.changes]}]
            for begin, end in ((-30, 60), (-7, -6), (-40, 3), (5, 50), (-20, -3), (60, 95)):
                self.assert_span(rule, value, begin, end, waits)

    def test_by_position_and_by_name(self):
        self.assert_answers(7, count_waits, example(), -4, 9, 3)
        self.assert_answers(3 * 5 + 4 + 5 + 3 + 2 + 1, sum_waits, example(), -3, 7)

    def test_empty_spans(self):
        for moment in (-GREAT, -FAR, -1, 0, 2, 3, FAR, GREAT):
            self.assert_answers(0, count_waits, example(), moment, moment, 3)
            self.assert_answers(0, sum_waits, example(), moment, moment)

    def test_begin_counts_and_end_does_not(self):
        self.assertEqual([count_waits(example(), at, at + 1, 5) for at in (1, 2, 3)], [0, 1, 0])
        self.assertEqual([sum_waits(example(), at, at + 1) for at in (1, 2, 3)], [3, 5, 4])

    def test_great_spans(self):
        for rule, value in told_rules(random_tellings(23, 60)):
            week, before, behind = rule.week, range(-100, -100 + rule.week), range(100, 100 + rule.week)
            inner = [value(at) - at for at in range(-100, 100)]
            ahead = [value(at) - at for at in before]
            later = [value(at) - at for at in behind]
            begin, end = -100 - week * FAR, 100 + week * FAR + week
            for wait in {*ahead, *later, inner[95], -99}:
                many = inner.count(wait) + FAR * ahead.count(wait) + (FAR + 1) * later.count(wait)
                self.assertEqual(count_waits(rule, begin, end, wait), many)
            whole = sum(inner) + FAR * sum(ahead) + (FAR + 1) * sum(later)
            self.assertEqual(sum_waits(rule, begin, end), whole)

    def test_great_spans_across_far_changes(self):
        rule = Rule([0, 0], [(-FAR, 1), (0, 2), (1, 1), (FAR, FAR), (FAR + 1, FAR)])
        self.assertEqual(count_waits(rule, -FAR, FAR, 0), FAR // 2)
        self.assertEqual(count_waits(rule, -FAR, FAR, 1), FAR)
        self.assertEqual(count_waits(rule, -FAR, FAR, 2), FAR // 2)
        self.assertEqual(count_waits(rule, -FAR - 2, FAR, 0), FAR // 2 + 2)
        self.assertEqual(count_waits(rule, -FAR, FAR + 1, FAR), 1)
        self.assertEqual(count_waits(rule, 0, 2 * FAR, FAR), FAR)
        self.assertEqual(sum_waits(rule, -FAR, FAR), FAR + FAR)
        self.assertEqual(sum_waits(rule, 1, 2 * FAR + 1), FAR + FAR // 2 - 2 + FAR * FAR + FAR)
        self.assertEqual(sum_waits(Rule.delay(7, -GREAT), -GREAT, GREAT), -2 * GREAT * GREAT)

    def test_ends_ahead_of_begins(self):
        for begin, end in ((1, 0), (0, -1), (FAR, FAR - 1), (GREAT, -GREAT)):
            self.assert_errors(InvalidSpan, (begin, end), count_waits, example(), begin, end, 3)
            self.assert_errors(InvalidSpan, (begin, end), sum_waits, example(), begin, end)


class NthWaitTest(RuleCase):
    def test_small_rules(self):
        for rule, value in small_rules(17):
            for begin, wait in product((-9, -3, 0, 1, 5), range(-3, 5)):
                found = [at for at in range(begin, 60) if value(at) - at == wait]
                for index in range(0, 9, 2):
                    expected = found[index] if index < len(found) else None
                    self.assertEqual(nth_wait(rule, begin, wait, index=index), expected)

    def test_random_rules(self):
        for rule, value in told_rules(random_tellings(24, 60)):
            for begin, wait in product((-40, -5, 7), {*rule.base, *[one for _, one in rule.changes]}):
                found = [at for at in range(begin, 150) if value(at) - at == wait]
                lasting = any(value(at) - at == wait for at in range(150, 150 + rule.week))
                for index, moment in enumerate(found):
                    self.assertEqual(nth_wait(rule, begin, wait, index=index), moment)
                if not lasting:
                    self.assertIsNone(nth_wait(rule, begin, wait, index=len(found)))
                    self.assertIsNone(nth_wait(rule, begin, wait, index=GREAT))

    def test_by_position_and_by_name(self):
        rule = example()
        for index, moment in enumerate((-3, -2, -1, 0, 1, 4, None)):
            for found in (
                nth_wait(rule, -3, 3, index=index),
                nth_wait(rule, -3, index=index, wait=3),
                nth_wait(index=index, wait=3, begin=-3, rule=rule),
            ):
                self.assertEqual(found, moment)
        self.assertEqual([nth_wait(rule, -3, 3), nth_wait(rule, wait=5, begin=-3)], [-3, 2])

    def test_the_index_is_passed_by_name_alone(self):
        with self.assertRaises(TypeError):
            nth_wait(example(), -3, 3, 1)

    def test_begin_itself_counts(self):
        self.assertEqual([nth_wait(example(), at, 5) for at in (1, 2, 3)], [2, 2, None])

    def test_a_wait_that_there_never_is(self):
        for wait in (6, -1, GREAT, -GREAT):
            for index in (0, 1, FAR):
                self.assertIsNone(nth_wait(example(), -FAR, wait, index=index))
                self.assertIsNone(nth_wait(example(), FAR, wait, index=index))

    def test_a_wait_that_there_is_a_finite_number_of_times(self):
        rule = Rule([0, 0], [(-FAR, 1), (FAR, 0)])
        self.assertEqual(nth_wait(rule, -GREAT, 1), -FAR)
        self.assertEqual(nth_wait(rule, -GREAT, 1, index=FAR - 1), FAR - 2)
        self.assertIsNone(nth_wait(rule, -GREAT, 1, index=FAR))
        self.assertEqual(nth_wait(rule, 1, 1, index=FAR // 2 - 2), FAR - 2)
        self.assertIsNone(nth_wait(rule, 1, 1, index=FAR // 2 - 1))

    def test_great_indexes(self):
        rule = Rule([0, 1, 0], [(4, 2), (5, 1)])
        self.assertEqual(nth_wait(rule, 0, 0, index=FAR), 3 * (FAR - 1))
        self.assertEqual(nth_wait(rule, 4, 2, index=FAR), 4 + 3 * FAR)
        self.assertEqual(nth_wait(rule, -3 * FAR, 0, index=2 * FAR - 1), -1)
        self.assertEqual(nth_wait(rule, -3 * FAR, 0, index=2 * FAR), 0)
        self.assertEqual(nth_wait(rule, -3 * FAR, 1, index=FAR), 1)
        self.assertEqual(nth_wait(rule, -3 * FAR, 1, index=FAR + 1), 5)
        self.assertEqual(nth_wait(rule, -3 * FAR, 1, index=GREAT), 5 + 3 * (GREAT - FAR - 1))

    def test_great_indexes_beside_counts(self):
        for rule, _ in told_rules(random_tellings(25, 40, begins=SPREAD, length=4)):
            lasting = {rule(GREAT + at) - GREAT - at for at in range(rule.week)}
            for begin, wait in product((-2 * FAR, -7, FAR + 3), lasting):
                for index in (0, 5, FAR - 1, FAR):
                    moment = nth_wait(rule, begin, wait, index=index)
                    self.assertEqual(rule(moment) - moment, wait)
                    self.assertEqual(count_waits(rule, begin, moment, wait), index)

    def test_negative_indexes(self):
        for index in (-1, -2, -GREAT):
            self.assert_error(InvalidAmount, index, nth_wait, example(), 0, 3, index=index)
            self.assert_error(
                InvalidAmount, index, nth_wait, index=index, wait=9, begin=0, rule=example()
            )


class WaitsFromTest(RuleCase):
    def test_small_rules(self):
        for rule, value in small_rules(41):
            for begin, many in product((-9, -1, 0, 4), (0, 1, 2, 7)):
                expected = [(at, value(at)) for at in range(begin, begin + many)]
                self.assertEqual(list(waits_from(rule, begin, many)), expected)

    def test_by_position_and_by_name(self):
        expected = [(1, 4), (2, 7), (3, 7)]
        self.assertEqual(list(waits_from(example(), 1, 3)), expected)
        self.assertEqual(list(waits_from(example(), many=3, begin=1)), expected)
        self.assertEqual(list(waits_from(many=3, begin=1, rule=example())), expected)

    def test_one_tuple_after_the_other(self):
        found = waits_from(example(), 2, 2)
        self.assertIs(iter(found), found)
        self.assertEqual([next(found), next(found), next(found, None)], [(2, 7), (3, 7), None])

    def test_500_and_far_moments(self):
        for begin in (-GREAT, -250, FAR):
            found = list(waits_from(example(), begin, 500))
            self.assertEqual([at for at, _ in found], [begin + step for step in range(500)])
            self.assertEqual([one for _, one in found], [example()(at) for at, _ in found])
            self.assertEqual({type(one) for one in found}, {tuple})

    def test_none_at_all(self):
        for begin in (-GREAT, 0, GREAT):
            self.assertEqual(list(waits_from(example(), begin, 0)), [])

    def test_negative_numbers(self):
        for many in (-1, -500, -GREAT):
            self.assert_errors(
                InvalidAmount, many, lambda rule, begin, many: next(waits_from(rule, begin, many)),
                example(), 0, many,
            )
            self.assert_error(
                InvalidAmount, many, lambda **named: list(waits_from(**named)),
                many=many, begin=0, rule=example(),
            )


class UntouchedTest(RuleCase):
    def test_no_call_changes_a_rule(self):
        rule = example()
        least_wait(rule)
        greatest_wait(rule)
        count_waits(rule, -9, 9, 3)
        sum_waits(rule, -9, 9)
        nth_wait(rule, -9, 3, index=4)
        list(waits_from(rule, -9, 20))
        self.assertEqual((rule.base, rule.changes), (example().base, example().changes))


if __name__ == "__main__":
    unittest.main()
