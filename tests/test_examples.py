"""The examples of the document, word for word, and those of README.md."""

import doctest
import pathlib
import unittest

README = pathlib.Path(__file__).resolve().parent.parent / "README.md"

CALENDARS = """
>>> from dueclocks.calendars import Calendar
>>> desk = Calendar([1, 1, 0], [(4, 0), (7, 1)])
>>> night = Calendar([0, 0, 2], [])
>>> [desk.week, desk.speeds, desk.changes, desk[4], desk[-1], 5 in desk, 4 in desk, (desk | night).speeds, (desk | night).changes, desk.moved(3).changes, desk == Calendar([1, 1, 0], [(4, 0)])]
[3, [1, 1, 0], [(4, 0)], 0, 0, False, False, [1, 1, 2], [(4, 0)], [(7, 0)], True]
"""

WORK = """
>>> from dueclocks.calendars import Calendar
>>> from dueclocks.work import count_open, due, first_unlike, last_open, latest, next_open, nth_open, work
>>> desk = Calendar([1, 1, 0], [(4, 0)])
>>> [work(desk, 0, 9), work(desk, 3, 3), due(desk, 1, 2), due(desk, 1, 3), due(desk, 2, 0), due(Calendar([0, 3], []), 0, 4), latest(desk, 6, 2), latest(desk, 6, 1), due(desk, 0, 2 * 10 ** 30)]
[5, 0, 4, 7, 2, 4, 1, 3, 3000000000000000000000000000001]
>>> [next_open(desk, 2), next_open(desk, 4), last_open(desk, 5), count_open(desk, 0, 9), nth_open(desk, 1, 3), first_unlike(desk, Calendar([1, 1, 0], [(-4, 1), (4, 0)])), first_unlike(desk, Calendar([1, 1, 0], [])), first_unlike(Calendar([1, 0], []), Calendar([0, 1], []))]
[3, 6, 3, 5, 7, -4, 4, 0]
"""


class ExamplesTest(unittest.TestCase):
    def run_text(self, text):
        example = doctest.DocTestParser().get_doctest(text, {}, "DOC.md", None, 0)
        runner = doctest.DocTestRunner(verbose=False)
        report = []
        result = runner.run(example, out=report.append)
        self.assertGreater(result.attempted, 0)
        self.assertEqual(result.failed, 0, "".join(report))

    def test_calendars(self):
        self.run_text(CALENDARS)

    def test_work(self):
        self.run_text(WORK)

    def test_readme(self):
        self.run_text(README.read_text(encoding="utf-8"))


if __name__ == "__main__":
    unittest.main()
