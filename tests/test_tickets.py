import random
import unittest
from itertools import product

from dueclocks.calendars import Calendar
from dueclocks.errors import (
    DueError, InvalidAmount, InvalidMoment, NothingToUndo, TooMany, WrongState,
)
from dueclocks.tickets import ShortTicket, Ticket
from dueclocks.work import due, latest, work
from tests import model
from tests.ticket_model import PlainTicket

FAR = 10 ** 30
GREAT = 10 ** 31


def desk():
    return Calendar([1, 1, 0], [(4, 0)])


def seen(ticket):
    """Return all that a ticket tells of itself, also of the time behind its last call."""
    moments = [ticket.moment + step for step in (0, 1, 5, 40, FAR)]
    return [
        ticket.moment, ticket.left, ticket.is_paused, ticket.story(), len(ticket), ticket.done_at(),
        [ticket.left_at(moment) for moment in moments], [ticket.can_wait(moment) for moment in moments],
    ]


class TicketCase(unittest.TestCase):
    def assert_error(self, kind, value, ticket, call, *told, **named):
        """A call of a ticket raises this very class with this value, and changes nothing."""
        before = seen(ticket)
        with self.assertRaises(DueError) as context:
            getattr(ticket, call)(*told, **named)
        self.assertIs(type(context.exception), kind)
        self.assertEqual(context.exception.value, value)
        self.assertIs(type(context.exception.value), type(value))
        self.assertEqual(seen(ticket), before)

    def assert_not_made(self, kind, value, made, *told, **named):
        with self.assertRaises(DueError) as context:
            made(*told, **named)
        self.assertIs(type(context.exception), kind)
        self.assertEqual(context.exception.value, value)

    def assert_same_outcome(self, error, ticket, call, *told):
        """A call of a ticket returns None, or raises an error of a tuple (class, value)."""
        if error is None:
            self.assertIsNone(getattr(ticket, call)(*told))
        else:
            self.assert_error(*error, ticket, call, *told)

    def assert_alike(self, ticket, plain):
        """A ticket tells the same as one that goes moment by moment."""
        _, left, moment, paused = plain.state()
        self.assertEqual((ticket.moment, ticket.left), (moment, left))
        self.assertIs(ticket.is_paused, paused)
        self.assertEqual(ticket.story(), plain.story())
        self.assertEqual(len(ticket), len(plain.calls))
        self.assertEqual(ticket.done_at(), plain.done_at())
        for step in (0, 1, 2, 5, 11):
            self.assertEqual(ticket.left_at(moment + step), plain.left_at(moment + step))
        for step in (-3, -1, 0, 1, 3, 8, 14):
            self.assertEqual(ticket.can_wait(moment + step), plain.can_wait(moment + step))


class ModelTest(TicketCase):
    def random_call(self, rng, ticket, desks):
        """Return a call at, behind or ahead of the moment of the last one, or near the end."""
        end = ticket.done_at()
        near = [ticket.moment, ticket.moment, ticket.moment - 1, ticket.moment + rng.randrange(1, 5)]
        near += [] if end is None else [end - 1, end, end + 3]
        moment = rng.choice(near)
        name = rng.choice(["pause", "resume", "switch", "enlarge"])
        if name == "switch":
            return name, rng.choice(desks), moment
        if name == "enlarge":
            return name, rng.choice([-2, -1, 0, 0, 1, 2, 7]), moment
        return name, moment

    def go_through(self, rng, ticket, plain, desks, steps):
        """Call both tickets so many times; return the outcomes as tuples (name, class)."""
        found = []
        for _ in range(steps):
            if rng.randrange(5) == 0:
                error, name, told = plain.undo(), "undo", ()
                passed = told
            else:
                name, *told = self.random_call(rng, ticket, desks)
                error = plain.call(name, *told)
                passed = (told[0][0], told[1]) if name == "switch" else told
            self.assert_same_outcome(error, ticket, name, *passed)
            self.assert_alike(ticket, plain)
            found.append((name, error and error[0]))
        return found

    def test_many_tickets(self):
        desks, outcomes = model.small_calendars(37), set()
        for seed in range(500):
            rng = random.Random(seed)
            start, amount, moment = rng.choice(desks), rng.randrange(0, 12), rng.randrange(-6, 6)
            ticket, plain = Ticket(start[0], amount, moment), PlainTicket(start, amount, moment)
            outcomes.update(self.go_through(rng, ticket, plain, desks, 14))
        for name in ("pause", "resume", "switch", "enlarge"):
            for error in (None, InvalidMoment, WrongState):
                self.assertIn((name, error), outcomes)
        self.assertLessEqual({("enlarge", InvalidAmount), ("undo", None), ("undo", NothingToUndo)}, outcomes)
        self.assertNotIn(TooMany, [error for _, error in outcomes])

    def test_many_short_tickets(self):
        desks, outcomes = model.small_calendars(41), set()
        for seed in range(300):
            rng = random.Random(seed)
            start, amount, most = rng.choice(desks), rng.randrange(3, 20), rng.randrange(4)
            ticket, plain = ShortTicket(start[0], amount, 0, most), PlainTicket(start, amount, 0, most)
            outcomes.update(self.go_through(rng, ticket, plain, desks, 12))
        for name in ("pause", "resume", "switch", "enlarge"):
            for error in (None, InvalidMoment, WrongState, TooMany):
                self.assertIn((name, error), outcomes)

    def test_a_hundred_calls(self):
        desks = model.small_calendars(97)
        rng = random.Random(7)
        start = (Calendar([1, 2], []), lambda at: 1 + at % 2)
        ticket, plain = Ticket(start[0], 10, 0), PlainTicket(start, 10, 0)
        self.go_through(rng, ticket, plain, desks, 100)

    def test_far_tickets_as_near_ones(self):
        for calendar, speed in model.small_calendars(307):
            for number in (-FAR, FAR, FAR + 1):
                ticket, plain = Ticket(calendar.moved(number), 9, number), PlainTicket((calendar, speed), 9, 0)
                for name, *told in (("enlarge", 3, 1), ("pause", 3), ("resume", 5), ("enlarge", 0, 5)):
                    error = plain.call(name, *told)
                    told[-1] += number
                    if error is None:
                        getattr(ticket, name)(*told)
                    else:
                        self.assert_error(error[0], told[-1], ticket, name, *told)
                    _, left, moment, _ = plain.state()
                    self.assertEqual((ticket.moment, ticket.left), (moment + number, left))
                    end, found = plain.done_at(), ticket.done_at()
                    self.assertEqual(found, end if end is None else end + number)
                    begin, found = plain.can_wait(20), ticket.can_wait(20 + number)
                    self.assertEqual(found, begin if begin is None else begin + number)


class ConstructingTest(TicketCase):
    def test_by_position_and_by_name(self):
        for ticket in (
            Ticket(desk(), 3, -2), Ticket(desk(), moment=-2, amount=3),
            Ticket(moment=-2, calendar=desk(), amount=3),
        ):
            self.assertEqual((ticket.moment, ticket.left), (-2, 3))
            self.assertIs(ticket.is_paused, False)
            self.assertEqual((ticket.story(), len(ticket)), ([], 0))
            self.assertEqual(ticket.done_at(), due(desk(), -2, 3))

    def test_negative_amounts(self):
        for amount in (-1, -7, -GREAT):
            self.assert_not_made(InvalidAmount, amount, Ticket, desk(), amount, 0)
            self.assert_not_made(InvalidAmount, amount, Ticket, moment=3, amount=amount, calendar=desk())

    def test_great_amounts(self):
        for amount, moment in product((10 ** 29, 10 ** 29 - 1, 3), (-GREAT, -1, 0, FAR)):
            ticket = Ticket(desk(), amount, moment)
            end = due(desk(), moment, amount)
            self.assertEqual(ticket.done_at(), end)
            self.assertEqual([ticket.left_at(at) for at in (end, end + 1, GREAT * 2)], [0, 0, 0])
            self.assertEqual(ticket.left_at(end - 1), 1)
            self.assertEqual(ticket.left_at(moment + 3), amount - work(desk(), moment, moment + 3))

    def test_nothing_to_do_at_all(self):
        for moment in (-FAR, 4, GREAT):
            ticket = Ticket(desk(), 0, moment)
            self.assertEqual((ticket.left, ticket.done_at(), ticket.left_at(moment)), (0, moment, 0))
            self.assertEqual([ticket.can_wait(moment + step) for step in (-1, 0, 1, FAR)],
                             [None, moment, moment + 1, moment + FAR])
            for step in (0, 1, FAR):
                at = moment + step
                self.assert_error(WrongState, at, ticket, "pause", at)
                self.assert_error(WrongState, at, ticket, "resume", at)
                self.assert_error(WrongState, at, ticket, "switch", desk(), at)
                self.assert_error(WrongState, at, ticket, "enlarge", 5, at)
            self.assert_error(NothingToUndo, 0, ticket, "undo")


class CallsTest(TicketCase):
    def test_arguments_by_position_and_by_name(self):
        one, other = Ticket(desk(), 9, 0), Ticket(desk(), 9, 0)
        plain = Calendar([2], [])
        found = [one.pause(1), one.resume(4), one.switch(plain, 6), one.enlarge(5, 7)]
        self.assertEqual(found, [None] * 4)
        found = [other.pause(moment=1), other.resume(moment=4), other.switch(moment=6, calendar=plain),
                 other.enlarge(moment=7, amount=5)]
        self.assertEqual(found, [None] * 4)
        self.assertEqual(seen(one), seen(other))
        self.assertEqual(one.story(), [("pause", 1), ("resume", 4), ("switch", plain, 6), ("enlarge", 5, 7)])
        self.assertEqual([(type(call), type(call[0])) for call in one.story()], [(tuple, str)] * 4)
        self.assertEqual(one.left_at(moment=8), one.left_at(8))
        self.assertEqual(one.can_wait(limit=30), one.can_wait(30))
        self.assertTrue(one == other)

    def test_at_the_moment_of_the_last_call(self):
        ticket = Ticket(desk(), 2, 3)
        for call, told in (("enlarge", (0,)), ("switch", (Calendar([3], []),)), ("pause", ()),
                           ("resume", ()), ("pause", ()), ("enlarge", (4,)), ("resume", ())):
            self.assertIsNone(getattr(ticket, call)(*told, 3))
            self.assertEqual(ticket.moment, 3)
        self.assertEqual((len(ticket), ticket.left, ticket.done_at()), (7, 6, 5))

    def test_next_to_the_end_at_it_and_far_behind(self):
        ticket = Ticket(desk(), 3, 0)
        self.assertEqual(ticket.done_at(), 4)
        for moment in (4, 5, FAR, GREAT):
            for call in ("pause", "resume"):
                self.assert_error(WrongState, moment, ticket, call, moment)
            self.assert_error(WrongState, moment, ticket, "switch", Calendar([1], []), moment)
            self.assert_error(WrongState, moment, ticket, "enlarge", 1, moment)
            self.assert_error(WrongState, moment, ticket, "enlarge", 0, moment)
        ticket.pause(3)
        self.assertEqual((ticket.left, ticket.moment, ticket.done_at()), (1, 3, None))
        for moment in (3, 4, 400, GREAT):
            self.assertEqual(ticket.left_at(moment), 1)
        ticket.resume(GREAT)
        self.assertEqual((ticket.left, ticket.done_at()), (1, GREAT + 1 + (GREAT % 3 == 2)))

    def test_ahead_of_the_last_call(self):
        ticket = Ticket(desk(), 3, 2)
        for paused in (False, True):
            for moment in (1, 0, -FAR, -GREAT):
                for call in ("pause", "resume", "left_at"):
                    self.assert_error(InvalidMoment, moment, ticket, call, moment)
                    self.assert_error(InvalidMoment, moment, ticket, call, moment=moment)
                self.assert_error(InvalidMoment, moment, ticket, "switch", desk(), moment)
                self.assert_error(InvalidMoment, moment, ticket, "enlarge", 1, moment)
            if not paused:
                ticket.pause(2)

    def test_paused_or_not(self):
        ticket = Ticket(desk(), 3, 0)
        self.assert_error(WrongState, 1, ticket, "resume", 1)
        ticket.pause(1)
        self.assertIs(ticket.is_paused, True)
        for moment in (1, 2, FAR):
            self.assert_error(WrongState, moment, ticket, "pause", moment)
        ticket.switch(Calendar([3], []), 2)
        ticket.enlarge(1, 3)
        self.assertEqual((ticket.is_paused, ticket.left, ticket.moment), (True, 3, 3))
        ticket.resume(9)
        self.assertEqual((ticket.is_paused, ticket.left, ticket.done_at()), (False, 3, 10))
        self.assert_error(WrongState, 9, ticket, "resume", 9)

    def test_negative_amounts_to_add(self):
        for ticket in (Ticket(desk(), 3, 0), Ticket(desk(), 0, 0)):
            for amount in (-1, -5, -GREAT):
                self.assert_error(InvalidAmount, amount, ticket, "enlarge", amount, 2)
                self.assert_error(InvalidAmount, amount, ticket, "enlarge", moment=GREAT, amount=amount)

    def test_the_first_error_that_is_due(self):
        done, paused = Ticket(desk(), 0, 5), ShortTicket(desk(), 3, 5, 1)
        paused.pause(5)
        for ticket in (done, paused, ShortTicket(desk(), 0, 5, 0), Ticket(desk(), 1, 5)):
            self.assert_error(InvalidMoment, 4, ticket, "enlarge", -1, 4)
            self.assert_error(InvalidMoment, 4, ticket, "pause", 4)
            self.assert_error(InvalidMoment, 4, ticket, "resume", 4)
            self.assert_error(InvalidMoment, 4, ticket, "switch", desk(), 4)
            self.assert_error(InvalidAmount, -1, ticket, "enlarge", -1, 5)
            self.assert_error(InvalidAmount, -1, ticket, "enlarge", -1, GREAT)
        for ticket in (done, ShortTicket(desk(), 0, 5, 0)):
            self.assert_error(WrongState, 5, ticket, "enlarge", 1, 5)
        self.assert_error(WrongState, 6, paused, "pause", 6)
        self.assert_error(TooMany, 2, paused, "resume", 6)
        self.assert_error(TooMany, 2, paused, "enlarge", 0, 6)

    def test_calendars_with_weeks_of_other_numbers_of_moments(self):
        ticket = Ticket(Calendar([0] * 11 + [1], []), 4, 0)
        self.assertEqual(ticket.done_at(), 48)
        ticket.switch(Calendar([1], []), 12)
        self.assertEqual((ticket.left, ticket.done_at()), (3, 15))
        ticket.switch(Calendar([0, 0, 0, 0, 2], [(14, 0)]), 13)
        self.assertEqual((ticket.left, ticket.done_at()), (2, 20))
        ticket.switch(Calendar([0] * 6 + [3], [(14, 1)]), 14)
        self.assertEqual((ticket.left, ticket.done_at()), (2, 21))
        self.assertEqual([ticket.left_at(at) for at in (14, 15, 20, 21)], [2, 1, 1, 0])
        self.assertEqual([len(call) for call in ticket.story()], [3, 3, 3])

    def test_great_amounts_and_moments(self):
        ticket = Ticket(desk(), 10 ** 29, -GREAT)
        ticket.enlarge(10 ** 29, 3 * 10 ** 28 - GREAT)
        self.assertEqual(ticket.left, 2 * 10 ** 29 - work(desk(), -GREAT, 3 * 10 ** 28 - GREAT))
        self.assertEqual(ticket.left, 2 * 10 ** 29 - 2 * 10 ** 28)
        end = ticket.done_at()
        self.assertEqual(end, due(desk(), 3 * 10 ** 28 - GREAT, ticket.left))
        self.assertEqual(ticket.can_wait(GREAT), latest(desk(), GREAT, ticket.left))
        ticket.pause(end - 1)
        ticket.enlarge(10 ** 29, GREAT)
        ticket.resume(GREAT)
        self.assertEqual((ticket.left, ticket.done_at()), (10 ** 29 + 1, due(desk(), GREAT, 10 ** 29 + 1)))

    def test_each_ticket_by_itself(self):
        calendar = desk()
        one, other = Ticket(calendar, 3, 0), Ticket(calendar, 3, 0)
        one.pause(1)
        self.assertEqual((other.is_paused, len(other), other.done_at()), (False, 0, 4))
        self.assertEqual((calendar.speeds, calendar.changes), ([1, 1, 0], [(4, 0)]))


class UndoTest(TicketCase):
    def test_each_of_the_four_calls(self):
        plain = Calendar([3], [])
        for calls in ([("pause", 1)], [("switch", plain, 2)], [("enlarge", 0, 1)], [("enlarge", 7, 0)],
                      [("pause", 1), ("resume", 1)], [("pause", 1), ("enlarge", 3, 8)],
                      [("pause", 1), ("switch", plain, FAR)], [("switch", plain, 1), ("pause", 1)]):
            ticket = Ticket(desk(), 5, 0)
            for name, *told in calls:
                before = seen(ticket)
                for _ in range(2):
                    getattr(ticket, name)(*told)
                    self.assertNotEqual(seen(ticket), before)
                    self.assertIsNone(ticket.undo())
                    self.assertEqual(seen(ticket), before)
                getattr(ticket, name)(*told)

    def test_down_to_the_first_one_and_once_more_and_again(self):
        ticket = Ticket(desk(), 5, 0)
        calls = [("enlarge", 2, 1), ("pause", 1), ("switch", Calendar([1, 0], []), 3), ("resume", 6),
                 ("enlarge", 0, 6), ("pause", 9), ("resume", FAR), ("switch", desk(), FAR + 1)]
        for _ in range(3):
            found = [seen(ticket)]
            for name, *told in calls:
                getattr(ticket, name)(*told)
                found.append(seen(ticket))
            self.assertEqual(ticket.story(), calls)
            for state in found[-2::-1]:
                ticket.undo()
                self.assertEqual(seen(ticket), state)
            self.assert_error(NothingToUndo, 0, ticket, "undo")
            self.assert_error(NothingToUndo, 0, ticket, "undo")

    def test_errors_are_not_taken_back(self):
        ticket = Ticket(desk(), 5, 0)
        ticket.pause(1)
        for call, told in (("pause", (2,)), ("enlarge", (-1, 2)), ("switch", (desk(), 0)), ("left_at", (0,))):
            with self.assertRaises(DueError):
                getattr(ticket, call)(*told)
        ticket.undo()
        self.assertEqual((ticket.story(), ticket.moment, ticket.is_paused), ([], 0, False))
        self.assert_error(NothingToUndo, 0, ticket, "undo")

    def test_an_undone_moment_is_open_again(self):
        ticket = Ticket(desk(), 5, 0)
        ticket.pause(1)
        ticket.undo()
        ticket.enlarge(1, 0)
        self.assertEqual(ticket.story(), [("enlarge", 1, 0)])
        ticket.undo()
        ticket.pause(2)
        self.assertEqual((ticket.left, ticket.story()), (3, [("pause", 2)]))


class WaitingTest(TicketCase):
    def test_the_end_and_the_limit(self):
        for calendar, speed in model.small_calendars(97):
            for amount, moment in product((0, 1, 4, 9), (-5, 0, 2)):
                ticket = Ticket(calendar, amount, moment)
                end = ticket.done_at()
                self.assertEqual(end, model.plain_due(speed, moment, amount))
                for limit in (moment - 1, moment, end - 1, end, end + 1, end + 9):
                    begin = ticket.can_wait(limit)
                    fits = limit >= moment and limit >= end
                    self.assertEqual(begin is None, not fits)
                    if fits:
                        self.assertEqual(begin, model.plain_latest(speed, limit, amount))

    def test_limits_while_it_runs_and_while_it_is_paused(self):
        running, paused = Ticket(desk(), 2, 2), Ticket(desk(), 2, 2)
        paused.pause(2)
        # 3 and 6 to 7 are open.
        for limit, begin in ((-GREAT, None), (1, None), (2, None), (5, None), (6, None), (7, 3), (8, 6),
                             (9, 6), (10, 7), (GREAT, GREAT - 3)):
            self.assertEqual([running.can_wait(limit), paused.can_wait(limit)], [begin, begin])
        self.assertEqual(running.can_wait(3 * FAR), 3 * FAR - 3)
        self.assertEqual((running.done_at(), paused.done_at()), (7, None))

    def test_a_caller_may_change_the_returned_story(self):
        ticket = Ticket(desk(), 5, 0)
        ticket.pause(1)
        before = seen(ticket)
        story = ticket.story()
        self.assertIsNot(story, ticket.story())
        story.append(("resume", 3))
        story[0] = ("enlarge", 1, 1)
        del story[0]
        story.clear()
        self.assertEqual(seen(ticket), before)
        ticket.undo()
        self.assertEqual(ticket.story(), [])

    def test_calendars_of_the_story_are_those_that_were_passed(self):
        one, other = Calendar([1, 2], [(5, 0)]), Calendar([3], [])
        ticket = Ticket(desk(), 50, 0)
        ticket.switch(one, 1)
        ticket.switch(other, 1)
        (_, first, _), (_, second, _) = ticket.story()
        self.assertTrue(first == one and second == other)
        self.assertEqual(type(first), Calendar)

    def test_asking_changes_nothing(self):
        ticket = Ticket(desk(), 5, 0)
        ticket.pause(1)
        for _ in range(3):
            before = seen(ticket)
            self.assertEqual(seen(ticket), before)


class EqualityTest(TicketCase):
    def made(self, calls, kind=Ticket, told=None):
        ticket = kind(*(told or [desk(), 9, 0]), *([4] if kind is ShortTicket else []))
        for name, *passed in calls:
            getattr(ticket, name)(*passed)
        return ticket

    def assert_equal(self, one, other):
        for left, right in ((one, other), (other, one)):
            self.assertIs(left == right, True)
            self.assertIs(left != right, False)

    def assert_unlike(self, one, other):
        for left, right in ((one, other), (other, one)):
            self.assertIs(left == right, False)
            self.assertIs(left != right, True)

    def test_the_same_calls(self):
        calls = [("pause", 1), ("resume", 3), ("switch", Calendar([2], [(9, 0)]), 4), ("enlarge", 2, 5)]
        for number in range(5):
            for kind in (Ticket, ShortTicket):
                self.assert_equal(self.made(calls[:number], kind), self.made(calls[:number], kind))
                self.assert_equal(*[self.made(calls[:number], kind)] * 2)
            for other in range(number):
                self.assert_unlike(self.made(calls[:number]), self.made(calls[:other]))
                one = self.made(calls[:number])
                for _ in range(number - other):
                    one.undo()
                self.assert_equal(one, self.made(calls[:other]))

    def test_one_call_is_another_one(self):
        one = [("pause", 1), ("enlarge", 2, 1), ("resume", 5)]
        for other in (
            [("pause", 2), ("enlarge", 2, 2), ("resume", 5)], [("pause", 1), ("enlarge", 3, 1), ("resume", 5)],
            [("pause", 1), ("enlarge", 2, 1), ("resume", 6)], [("pause", 1), ("enlarge", 2, 2), ("resume", 5)],
            [("pause", 1), ("switch", desk(), 1), ("resume", 5)], [("enlarge", 2, 1), ("pause", 1), ("resume", 5)],
            [("pause", 1), ("enlarge", 2, 1)], one + [("enlarge", 0, 5)],
        ):
            self.assert_unlike(self.made(one), self.made(other))

    def test_other_ways_to_as_much(self):
        self.assert_unlike(self.made([("enlarge", 4, 0)]), self.made([("enlarge", 2, 0)] * 2))
        self.assert_unlike(self.made([("enlarge", 0, 0)]), self.made([]))
        self.assert_unlike(self.made([("switch", desk(), 0)]), self.made([]))
        self.assert_unlike(self.made([("pause", 0), ("resume", 0)]), self.made([]))
        self.assert_unlike(self.made([("enlarge", 1, 0)]), self.made([], told=[desk(), 10, 0]))

    def test_calendars(self):
        idle = Calendar([1, 1, 0], [(4, 0), (6, 1), (8, 0)])
        self.assert_equal(self.made([]), self.made([], told=[idle, 9, 0]))
        self.assert_equal(self.made([("switch", idle, 2)]), self.made([("switch", desk(), 2)]))
        for other in (Calendar([1, 1, 0], []), Calendar([1, 1, 0], [(4, 0), (FAR, 3)]), Calendar([1, 1, 0] * 2, [(4, 0)])):
            self.assert_unlike(self.made([]), self.made([], told=[other, 9, 0]))
            self.assert_unlike(self.made([("switch", other, 2)]), self.made([("switch", desk(), 2)]))

    def test_first_amounts_and_moments(self):
        for told in ([desk(), 8, 0], [desk(), 9, 1], [desk(), 9, -3]):
            self.assert_unlike(self.made([]), self.made([], told=told))
            self.assert_unlike(self.made([("pause", 2)]), self.made([("pause", 2)], told=told))
        self.assert_unlike(self.made([]), self.made([], told=[desk(), 9, FAR]))

    def test_another_most_or_none(self):
        for one, other in product((0, 1, 5, FAR), repeat=2):
            check = self.assert_equal if one == other else self.assert_unlike
            check(ShortTicket(desk(), 3, 0, one), ShortTicket(desk(), 3, 0, other))
            self.assert_unlike(ShortTicket(desk(), 3, 0, one), Ticket(desk(), 3, 0))

    def test_anything_else(self):
        for ticket in (self.made([]), self.made([("pause", 1)]), self.made([], ShortTicket)):
            for other in ([], ticket.story(), "", "ticket", 0, 9, None, True, (desk(), 9, 0), desk(), {}):
                self.assert_unlike(ticket, other)


class ShortTicketTest(TicketCase):
    def test_by_position_and_by_name(self):
        for ticket in (
            ShortTicket(desk(), 3, -2, 1), ShortTicket(desk(), 3, most=1, moment=-2),
            ShortTicket(most=1, moment=-2, amount=3, calendar=desk()),
        ):
            self.assertIsInstance(ticket, Ticket)
            self.assertEqual((ticket.moment, ticket.left, ticket.is_paused), (-2, 3, False))
            self.assertIsNone(ticket.pause(-2))
            self.assert_error(TooMany, 2, ticket, "resume", 0)
        self.assertTrue(issubclass(ShortTicket, Ticket))
        self.assertNotIsInstance(Ticket(desk(), 3, 0), ShortTicket)

    def test_errors_of_the_constructor_in_their_sequence(self):
        for most in (-1, -5, -GREAT):
            self.assert_not_made(InvalidAmount, most, ShortTicket, desk(), 0, 0, most)
            self.assert_not_made(InvalidAmount, most, ShortTicket, desk(), most=most, moment=5, amount=GREAT)
            for amount in (-2, -FAR):
                self.assert_not_made(InvalidAmount, amount, ShortTicket, desk(), amount, 0, most)
        self.assert_not_made(InvalidAmount, -2, ShortTicket, desk(), -2, 0, 3)

    def test_none_one_and_as_many_as_the_calls(self):
        calls = [("enlarge", 1, 0), ("pause", 1), ("switch", Calendar([1], []), 2), ("resume", 3)]
        for most in range(6):
            ticket, free = ShortTicket(desk(), 5, 0, most), Ticket(desk(), 5, 0)
            for name, *told in calls[:most]:
                self.assertIsNone(getattr(ticket, name)(*told))
                getattr(free, name)(*told)
            self.assertEqual(seen(ticket), seen(free))
            for name, *told in calls[most:most + 1]:
                self.assert_error(TooMany, most + 1, ticket, name, *told)
                self.assert_error(TooMany, most + 1, ticket, name, *told)

    def test_each_of_the_four_calls(self):
        ticket = ShortTicket(desk(), 5, 0, 0)
        for name, told in (("pause", (0,)), ("switch", (desk(), 0)), ("enlarge", (0, 0))):
            self.assert_error(TooMany, 1, ticket, name, *told)
        ticket = ShortTicket(desk(), 5, 0, 1)
        ticket.pause(1)
        for name, told in (("resume", (1,)), ("switch", (desk(), 1)), ("enlarge", (0, 1))):
            self.assert_error(TooMany, 2, ticket, name, *told)
        self.assert_error(TooMany, 2, ticket, "switch", moment=GREAT, calendar=desk())
        self.assert_error(TooMany, 2, ticket, "enlarge", moment=GREAT, amount=0)
        self.assert_error(TooMany, 2, ticket, "resume", moment=GREAT)

    def test_room_again_behind_undo(self):
        ticket = ShortTicket(desk(), 9, 0, 2)
        for _ in range(3):
            ticket.pause(1)
            ticket.resume(2)
            self.assert_error(TooMany, 3, ticket, "pause", 3)
            ticket.undo()
            self.assertEqual(ticket.story(), [("pause", 1)])
            ticket.enlarge(1, 2)
            self.assert_error(TooMany, 3, ticket, "resume", 3)
            ticket.undo()
            ticket.undo()
            self.assert_error(NothingToUndo, 0, ticket, "undo")
        self.assertTrue(ticket == ShortTicket(desk(), 9, 0, 2))

    def test_a_great_most(self):
        ticket = ShortTicket(desk(), 9, 0, GREAT)
        for _ in range(90):
            ticket.enlarge(0, 0)
        self.assertEqual(len(ticket), 90)


if __name__ == "__main__":
    unittest.main()
