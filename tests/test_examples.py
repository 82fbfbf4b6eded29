"""The examples of the document, word for word, and those of README.md."""

import doctest
import pathlib
import re
import unittest

README = pathlib.Path(__file__).resolve().parent.parent / "README.md"
DOCUMENT = README.parent.parent / "shared" / "DOC.md"

CALENDARS = """
>>> from dueclocks.calendars import Calendar
>>> desk = Calendar([1, 1, 0], [(4, 0), (7, 1)])
>>> night = Calendar([0, 0, 2], [])
>>> [desk.week, desk.speeds, desk.changes, desk[4], desk[-1], 5 in desk, 4 in desk, (desk | night).speeds, (desk | night).changes, desk.moved(3).changes, desk == Calendar([1, 1, 0], [(4, 0)])]
[3, [1, 1, 0], [(4, 0)], 0, 0, False, False, [1, 1, 2], [(4, 0)], [(7, 0)], True]
"""

WORK = """
>>> from dueclocks.calendars import Calendar
>>> from dueclocks.work import count_open, due, first_unlike, last_open, latest, next_open, nth_open, work
>>> desk = Calendar([1, 1, 0], [(4, 0)])
>>> [work(desk, 0, 9), work(desk, 3, 3), due(desk, 1, 2), due(desk, 1, 3), due(desk, 2, 0), due(Calendar([0, 3], []), 0, 4), latest(desk, 6, 2), latest(desk, 6, 1), due(desk, 0, 2 * 10 ** 30)]
[5, 0, 4, 7, 2, 4, 1, 3, 3000000000000000000000000000001]
>>> [next_open(desk, 2), next_open(desk, 4), last_open(desk, 5), count_open(desk, 0, 9), nth_open(desk, 1, 3), first_unlike(desk, Calendar([1, 1, 0], [(-4, 1), (4, 0)])), first_unlike(desk, Calendar([1, 1, 0], [])), first_unlike(Calendar([1, 0], []), Calendar([0, 1], []))]
[3, 6, 3, 5, 7, -4, 4, 0]
"""

RULES = """
>>> from dueclocks.calendars import Calendar
>>> from dueclocks.rules import Rule, earlier_of, in_turn, later_of
>>> desk = Calendar([1, 1, 0], [(4, 0)])
>>> two, wait = Rule.promise(desk, 2), Rule.opening(desk)
>>> [two.base, two.changes, [two(t) for t in range(-1, 7)], wait.base, wait.changes, wait(4), 4 in wait, 4 in two]
[[2, 3, 3], [(2, 5), (3, 4), (4, 4), (5, 3), (6, 2), (7, 3)], [2, 2, 4, 7, 7, 8, 8, 8], [0, 0, 1], [(4, 2), (7, 0)], 6, False, True]
>>> late = ~two
>>> [[late(u) for u in (2, 3, 4, 6, 7, 8)], (two >> wait)(2), (two | Rule.delay(3, 4))(0), (two & Rule.delay(3, 4))(2), two * 0 == Rule.delay(3, 0), in_turn(two, wait, two)(0), later_of(wait, two) == two, earlier_of(wait, two) == wait, Rule([1, 0], []).base]
[[0, 0, 1, 1, 3, 6], 7, 4, 6, True, 7, True, True, [1, 0]]
"""

COMPARE = """
>>> from dueclocks.calendars import Calendar
>>> from dueclocks.compare import first_later, followed, is_wait, parting, parting_in_turn, soonest
>>> from dueclocks.rules import Rule
>>> desk, plain = Calendar([1, 1, 0], [(4, 0)]), Calendar([1, 1, 0], [])
>>> one, two = Rule.promise(desk, 1), Rule.promise(desk, 2)
>>> [parting(one >> one, two), parting(two, Rule.promise(plain, 2)), first_later(Rule.promise(plain, 2), two), first_later(two, one), parting_in_turn(one, Rule.delay(3, 3)), parting_in_turn(one, Rule.delay(3, 1)), followed(one, two) == one, followed(two, Rule.delay(3, 1)), is_wait(Rule.opening(desk)), is_wait(one), soonest(one)(7), (~one)(7)]
[None, 2, None, 0, 1, 1, True, None, True, False, 4, 6]
"""

WAITS_AND_REACHED = """
>>> from dueclocks.calendars import Calendar
>>> from dueclocks.reached import count_reached, first_missed, nth_reached, starts
>>> from dueclocks.rules import Rule
>>> from dueclocks.waits import count_waits, greatest_wait, least_wait, nth_wait, sum_waits, waits_from
>>> two = Rule.promise(Calendar([1, 1, 0], [(4, 0)]), 2)
>>> [least_wait(two), greatest_wait(two), count_waits(two, 0, 9, 3), count_waits(two, 0, 3 * 10 ** 30, 2), sum_waits(two, 0, 3), sum_waits(two, 3, 3), nth_wait(two, 0, 3), nth_wait(two, 0, 3, index=2), nth_wait(two, 3, 5), list(waits_from(two, 1, 3))]
[(2, 0), (5, 2), 4, 999999999999999999999999999999, 10, 0, 1, 7, None, [(1, 4), (2, 7), (3, 7)]]
>>> [starts(two, 8), starts(two, 5), count_reached(two, 0, 9), nth_reached(two, 3, 1), first_missed(two), first_missed(Rule.delay(5, -7))]
[(4, 6), None, 5, 7, 0, None]
"""

FAR = """
>>> from dueclocks.calendars import Calendar
>>> from dueclocks.far import after, orbit, rates, times_until
>>> from dueclocks.rules import Rule
>>> two = Rule.promise(Calendar([1, 1, 0], [(4, 0)]), 2)
>>> [list(orbit(two, -1, 4)), after(two, 0, 10 ** 30), times_until(two, 0, 8), times_until(two, 3, 3), times_until(Rule([1, 0], []), 0, 2), rates(two), rates(Rule([0, 0], [(3, 1)]))]
[[-1, 2, 7, 10, 13], 3000000000000000000000000000001, 3, 0, None, ((3, 1), (3, 1)), ((0, 1), (0, 1))]
"""

TICKETS = """
>>> from dueclocks.calendars import Calendar
>>> from dueclocks.tickets import ShortTicket, Ticket
>>> desk = Calendar([1, 1, 0], [(4, 0)])
>>> ticket = Ticket(desk, 3, 0)
>>> [ticket.done_at(), ticket.left_at(2), ticket.pause(2), ticket.left, ticket.done_at(), ticket.can_wait(7), ticket.can_wait(5), ticket.can_wait(1), ticket.resume(4), ticket.done_at(), ticket.enlarge(2, 6), ticket.done_at(), ticket.undo(), ticket.done_at(), ticket.story(), len(ticket), ticket == ShortTicket(desk, 3, 0, 9)]
[4, 1, None, 1, None, 6, 3, None, None, 7, None, 10, None, 7, [('pause', 2), ('resume', 4)], 2, False]
"""

TEXTS_AND_READINGS = """
>>> from dueclocks.calendars import Calendar
>>> from dueclocks.readings import read_calendar, read_rule
>>> from dueclocks.rules import Rule
>>> from dueclocks.texts import show_calendar, show_rule
>>> desk = Calendar([1, 1, 0], [(4, 0), (7, 1)])
>>> [show_calendar(desk), show_rule(Rule.delay(2, -5)), read_calendar("1 1 0 / 4:0") == desk, read_rule("0 0 1 / 4:2 7:0") == Rule.opening(desk)]
['1 1 0 / 4:0', '-5 -5 / -', True, True]
"""


class ExamplesTest(unittest.TestCase):
    def run_text(self, text):
        example = doctest.DocTestParser().get_doctest(text, {}, "DOC.md", None, 0)
        runner = doctest.DocTestRunner(verbose=False)
        report = []
        result = runner.run(example, out=report.append)
        self.assertGreater(result.attempted, 0)
        self.assertEqual(result.failed, 0, "".join(report))

    def test_calendars(self):
        self.run_text(CALENDARS)

    def test_work(self):
        self.run_text(WORK)

    def test_rules(self):
        self.run_text(RULES)

    def test_compare(self):
        self.run_text(COMPARE)

    def test_waits_and_reached(self):
        self.run_text(WAITS_AND_REACHED)

    def test_far(self):
        self.run_text(FAR)

    def test_tickets(self):
        self.run_text(TICKETS)

    def test_texts_and_readings(self):
        self.run_text(TEXTS_AND_READINGS)

    def test_they_are_those_of_the_document(self):
        if not DOCUMENT.is_file():
            self.skipTest("the document does not lie beside this folder")
        found = re.findall("^```\n(.*?)^```$", DOCUMENT.read_text(encoding="utf-8"), re.DOTALL | re.MULTILINE)
        self.assertEqual(found, [text[1:] for text in (
            CALENDARS, WORK, RULES, COMPARE, WAITS_AND_REACHED, FAR, TICKETS, TEXTS_AND_READINGS,
        )])

    def test_readme(self):
        self.run_text(README.read_text(encoding="utf-8"))


if __name__ == "__main__":
    unittest.main()
