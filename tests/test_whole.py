"""What holds over the whole program: tickets beside rules, and objects that never change."""

import random
import unittest
from itertools import product

from dueclocks.calendars import Calendar
from dueclocks.compare import (
    first_later, followed, is_wait, parting, parting_in_turn, soonest,
)
from dueclocks.far import after, orbit, rates, times_until
from dueclocks.reached import count_reached, first_missed, nth_reached, starts
from dueclocks.readings import read_calendar, read_rule
from dueclocks.rules import Rule, earlier_of, in_turn, later_of
from dueclocks.texts import show_calendar, show_rule
from dueclocks.tickets import ShortTicket, Ticket
from dueclocks.waits import (
    count_waits, greatest_wait, least_wait, nth_wait, sum_waits, waits_from,
)
from dueclocks.work import (
    count_open, due, first_unlike, last_open, latest, next_open, nth_open, work,
)
from tests import model
from tests.rule_model import FAR, GREAT, SPREAD, random_tellings

SPANS = ((-9, 12), (0, 0), (-FAR, FAR), (3, 4))
MOMENTS = (-GREAT, -FAR, -7, -1, 0, 3, 4, 11, FAR)

ASKED_OF_CALENDARS = {
    "properties": lambda one, other: (one.week, one.speeds, one.changes),
    "speeds": lambda one, other: [one[at] for at in MOMENTS],
    "open": lambda one, other: [at in one for at in MOMENTS],
    "either": lambda one, other: ((one | other).speeds, (one | other).changes),
    "moved": lambda one, other: (one.moved(5).speeds, one.moved(-FAR).changes),
    "equal": lambda one, other: (one == other, one == one.moved(0), one == 3),
    "work": lambda one, other: [work(one, *span) for span in SPANS],
    "due": lambda one, other: [due(one, at, amount) for at in MOMENTS for amount in (0, 4, FAR)],
    "latest": lambda one, other: [latest(one, at, amount) for at in MOMENTS for amount in (0, 4, FAR)],
    "next and last": lambda one, other: [(next_open(one, at), last_open(one, at)) for at in MOMENTS],
    "count": lambda one, other: [count_open(one, *span) for span in SPANS],
    "nth": lambda one, other: [nth_open(one, at, index) for at in MOMENTS for index in (0, 5, FAR)],
    "unlike": lambda one, other: first_unlike(one, other),
    "rules": lambda one, other: [
        (rule.base, rule.changes) for rule in (Rule.promise(one, 3), Rule.promise(one, FAR), Rule.opening(one))
    ],
    "text": lambda one, other: show_calendar(one),
    "ticket": lambda one, other: told_by(Ticket(one, 7, -3), other),
}


def told_by(ticket, other):
    """Return what a ticket tells before and behind some calls."""
    found = [ticket.done_at(), ticket.left_at(4), ticket.can_wait(30)]
    ticket.enlarge(9, ticket.moment)
    ticket.switch(other, ticket.moment + 1)
    ticket.pause(ticket.moment)
    return found + [ticket.left, ticket.can_wait(FAR), ticket.done_at(), len(ticket)]


def tell(rule):
    return None if rule is None else (rule.base, rule.changes)


ASKED_OF_RULES = {
    "properties": lambda one, other: (one.week, one.base, one.changes),
    "values": lambda one, other: [one(at) for at in MOMENTS],
    "in": lambda one, other: [at in one for at in MOMENTS],
    "equal": lambda one, other: (one == other, one == one | one, one == "rule"),
    "in turn": lambda one, other: tell(one >> other),
    "joined": lambda one, other: (tell(one | other), tell(one & other)),
    "latest": lambda one, other: tell(~one),
    "times": lambda one, other: (tell(one * 3), tell(2 * one), tell(one * 0)),
    "several": lambda one, other: [tell(call(one, other, one)) for call in (in_turn, later_of, earlier_of)],
    "parting": lambda one, other: (parting(one, other), first_later(one, other), parting_in_turn(one, other)),
    "followed": lambda one, other: (tell(followed(one, one >> other)), tell(followed(one, other))),
    "soonest": lambda one, other: (tell(soonest(one)), is_wait(one)),
    "waits": lambda one, other: (least_wait(one), greatest_wait(one)),
    "counts": lambda one, other: [(count_waits(one, *span, 1), sum_waits(one, *span)) for span in SPANS],
    "nth": lambda one, other: [(nth_wait(one, at, 2, index=1), nth_reached(one, at, 4)) for at in MOMENTS],
    "from": lambda one, other: [list(waits_from(one, at, 9)) for at in MOMENTS],
    "reached": lambda one, other: ([starts(one, at) for at in MOMENTS], first_missed(one)),
    "count reached": lambda one, other: [count_reached(one, *span) for span in SPANS],
    "after": lambda one, other: [after(one, at, times) for at in MOMENTS for times in (0, 1, 30, FAR)],
    "orbit": lambda one, other: [list(orbit(one, at, 20)) for at in MOMENTS],
    "until": lambda one, other: [times_until(one, at, goal) for at in MOMENTS for goal in MOMENTS],
    "rates": lambda one, other: rates(one),
    "text": lambda one, other: show_rule(one),
}


def some_calendars():
    """Return pairs of tuples (speeds, changes) of calendars with the same week."""
    return [
        (([1, 0, 2], [(-2, 0), (4, 3)]), ([0, 3, 1], [(0, 0)])),
        (([1] + [0] * 11, [(-FAR, 2), (5, 1), (FAR, 3)]), ([0] * 6 + [2] * 6, [])),
        (([2], [(-1, 0), (0, 3), (1, 0)]), ([1], [(FAR, 0)])),
    ]


def some_rules():
    """Return pairs of tuples (base, changes) of rules with the same week."""
    found = []
    for week in (1, 2, 3, 7, 12):
        found.append(random_tellings(61 + week, 2, weeks=[week], length=4))
        found.append(random_tellings(71 + week, 2, weeks=[week], begins=SPREAD, length=3))
    return found


class TicketsBesideRulesTest(unittest.TestCase):
    def test_a_ticket_is_done_at_the_value_of_the_rule_that_promises_its_amount(self):
        for calendar, _ in model.small_calendars(41):
            for amount in (0, 1, 5, 8):
                rule = Rule.promise(calendar, amount)
                for moment in range(-8, 9):
                    self.assertEqual(Ticket(calendar, amount, moment).done_at(), rule(moment))

    def test_how_long_it_can_wait_is_what_the_latest_start_of_that_rule_tells(self):
        for calendar, _ in model.small_calendars(61):
            for amount in (0, 1, 5, 8):
                late = ~Rule.promise(calendar, amount)
                for moment in (-9, 0, 3):
                    ticket = ShortTicket(calendar, amount, moment, 0)
                    for limit in range(-12, 25, 3):
                        begin = late(limit)
                        expected = begin if begin >= moment else None
                        self.assertEqual(ticket.can_wait(limit), expected)

    def test_great_amounts_and_far_changes(self):
        for (speeds, changes), _ in some_calendars():
            calendar = Calendar(speeds, changes)
            for amount in (3, FAR, 10 ** 29):
                rule = Rule.promise(calendar, amount)
                late = ~rule
                for moment in MOMENTS:
                    ticket = Ticket(calendar, amount, moment)
                    self.assertEqual(ticket.done_at(), rule(moment))
                    begin = ticket.can_wait(rule(moment))
                    self.assertEqual(begin, late(rule(moment)))
                    self.assertEqual(rule(begin), rule(moment))
                    self.assertIsNone(ticket.can_wait(rule(moment) - 1))

    def test_a_paused_and_resumed_ticket_waits_for_the_rest_alone(self):
        for calendar, _ in model.small_calendars(97):
            for break_at, back_at in ((0, 0), (1, 4), (2, 9)):
                ticket = Ticket(calendar, 9, 0)
                ticket.pause(break_at)
                ticket.resume(back_at)
                rest = Rule.promise(calendar, 9 - work(calendar, 0, break_at))
                self.assertEqual(ticket.done_at(), rest(back_at))

    def test_enlarged_at_once_is_asked_for_more(self):
        for calendar, _ in model.small_calendars(97):
            ticket = Ticket(calendar, 4, -2)
            ticket.enlarge(3, -2)
            self.assertEqual(ticket.done_at(), Rule.promise(calendar, 7)(-2))


class PromisesAgainTest(unittest.TestCase):
    def test_ends_where_all_the_amounts_together_end(self):
        # Nothing of a moment is left over if no speed is above 1, or if all amounts fit.
        for speeds, changes in (
            ([1, 1, 0], [(4, 0)]), ([1], []), ([0, 0, 1, 0], [(-FAR, 1), (FAR, 1)]), ([1] + [0] * 11, [(3, 1)]),
        ):
            calendar = Calendar(speeds, changes)
            for amount, times in product((0, 1, 2, 5), (0, 1, 2, 6)):
                rule, whole = Rule.promise(calendar, amount), Rule.promise(calendar, amount * times)
                self.assertTrue(rule * times == whole)
                for moment in MOMENTS:
                    self.assertEqual(after(rule, moment, times), whole(moment))

    def test_also_10_30_times(self):
        for speeds, changes in (([1, 1, 0], [(4, 0)]), ([0, 1, 0, 0, 1], [(-FAR, 0), (0, 1), (FAR, 1)])):
            calendar = Calendar(speeds, changes)
            for amount, moment in product((1, 2, 9), (-3 * FAR, -1, 0, FAR)):
                rule = Rule.promise(calendar, amount)
                for times in (FAR, FAR + 1, GREAT):
                    end = due(calendar, moment, amount * times)
                    self.assertEqual(after(rule, moment, times), end)
                    self.assertEqual(times_until(rule, moment, end), times)
                    self.assertEqual(times_until(rule, moment, end + 1), times + 1)

    def test_speeds_above_1(self):
        for factor in (2, 3):
            calendar = Calendar([factor, 0, factor], [(1, factor), (6, 0)])
            for times in (3, FAR):
                # Each amount ends with a moment, and leaves nothing over.
                rule = Rule.promise(calendar, factor)
                self.assertEqual(after(rule, -5, times), due(calendar, -5, factor * times))
                # Each amount leaves something over, so that all together end earlier.
                rule = Rule.promise(calendar, factor - 1)
                self.assertEqual(after(rule, -5, times), due(calendar, -5, factor * times))
                self.assertGreater(after(rule, -5, times), due(calendar, -5, (factor - 1) * times))

    def test_openings_lead_on_only_once(self):
        for calendar, _ in model.small_calendars(97):
            rule = Rule.opening(calendar)
            self.assertTrue(is_wait(rule))
            self.assertEqual(rates(rule), ((0, 1), (0, 1)))
            for moment in range(-7, 8):
                self.assertEqual(after(rule, moment, GREAT), next_open(calendar, moment))
                self.assertIsNone(times_until(rule, moment, next_open(calendar, moment) + 1))


class AskedTest(unittest.TestCase):
    def assert_as_anew(self, kind, pairs, asked):
        """Each question has the answer that objects constructed anew give, in any sequence."""
        for seed, (one, other) in enumerate(pairs):
            rng = random.Random(seed)
            kept, kept_other = kind(*one), kind(*other)
            questions = list(asked) * 3
            rng.shuffle(questions)
            for question in questions:
                answer = asked[question](kept, kept_other)
                self.assertEqual(answer, asked[question](kind(*one), kind(*other)), question)
                self.assertEqual(answer, asked[question](kept, kind(*other)), question)

    def test_calendars(self):
        self.assert_as_anew(Calendar, some_calendars(), ASKED_OF_CALENDARS)

    def test_rules(self):
        self.assert_as_anew(Rule, some_rules(), ASKED_OF_RULES)

    def test_calendars_and_rules_that_were_read(self):
        for one, other in some_calendars():
            kept, kept_other = [read_calendar(show_calendar(Calendar(*pair))) for pair in (one, other)]
            for question in ASKED_OF_CALENDARS.values():
                self.assertEqual(question(kept, kept_other), question(Calendar(*one), Calendar(*other)))
        for one, other in some_rules():
            kept, kept_other = [read_rule(show_rule(Rule(*pair))) for pair in (one, other)]
            for question in ASKED_OF_RULES.values():
                self.assertEqual(question(kept, kept_other), question(Rule(*one), Rule(*other)))


class ReturnedTest(unittest.TestCase):
    def spoil(self, found):
        """Change a returned list in several ways."""
        self.assertIs(type(found), list)
        found.append((0, 99))
        found[0] = 77
        found.reverse()
        del found[1:]
        found.clear()

    def test_lists_of_calendars_and_rules(self):
        (speeds, changes), _ = some_calendars()[0]
        calendar, rule = Calendar(speeds, changes), Rule([1, 0, 1], [(4, 3), (5, 2), (6, 2)])
        ticket = Ticket(calendar, 20, 0)
        ticket.switch(calendar, 1)
        told = [
            (thing, name) for thing, names in (
                (calendar, ("speeds", "changes")), (rule, ("base", "changes")),
                (calendar | calendar, ("speeds", "changes")), (calendar.moved(3), ("speeds", "changes")),
                (~rule, ("base", "changes")), (rule >> rule, ("base", "changes")),
                (Rule.promise(calendar, 2), ("base", "changes")), (soonest(rule), ("base", "changes")),
                (followed(rule, rule), ("base", "changes")), (read_calendar("1 0 / 3:2"), ("speeds", "changes")),
            ) for name in names
        ]
        for thing, name in told:
            before = list(getattr(thing, name))
            self.assertIsNot(getattr(thing, name), getattr(thing, name))
            self.spoil(getattr(thing, name))
            self.assertEqual(getattr(thing, name), before)
        before = ticket.story()
        self.spoil(ticket.story())
        self.assertEqual(ticket.story(), before)
        self.assertTrue(calendar == Calendar(speeds, changes))

    def test_returned_lists_may_be_passed_on_and_then_changed(self):
        calendar, rule = Calendar([1, 0, 2], [(4, 2)]), Rule([1, 0, 1], [(4, 3), (5, 2), (6, 2)])
        speeds, changes, base, turns = calendar.speeds, calendar.changes, rule.base, rule.changes
        other, same = Calendar(speeds, changes), Rule(base, turns)
        for found in (speeds, changes, base, turns):
            self.spoil(found)
        self.assertTrue(other == calendar == Calendar([1, 0, 2], [(4, 2)]))
        self.assertTrue(same == rule == Rule([1, 0, 1], [(4, 3), (5, 2), (6, 2)]))

    def test_lists_that_were_passed_stay(self):
        speeds, changes, base, turns = [1, 0, 2], [(4, 2), (6, 1)], [1, 0, 1], [(4, 3), (5, 2), (6, 2), (9, 2)]
        calendar, rule = Calendar(speeds, changes), Rule(base, turns)
        for question in ASKED_OF_CALENDARS.values():
            question(calendar, calendar)
        for question in ASKED_OF_RULES.values():
            question(rule, rule)
        self.assertEqual((speeds, changes), ([1, 0, 2], [(4, 2), (6, 1)]))
        self.assertEqual((base, turns), ([1, 0, 1], [(4, 3), (5, 2), (6, 2), (9, 2)]))


if __name__ == "__main__":
    unittest.main()
