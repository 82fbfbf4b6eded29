"""What the tests of rules have in common."""

import inspect
import unittest

from dueclocks.errors import DueError
from dueclocks.rules import Rule
from tests.rule_model import GREAT, normal_form


def told(thing):
    """Return what a rule tells of itself, of other things the thing."""
    return (thing.base, thing.changes) if isinstance(thing, Rule) else thing


class RuleCase(unittest.TestCase):
    def assert_error(self, kind, value, call, *args, **named):
        """The call raises this very class with this value, and the rules stay."""
        passed = [*args, *named.values()]
        before = [told(one) for one in passed]
        with self.assertRaises(DueError) as context:
            call(*args, **named)
        self.assertIs(type(context.exception), kind)
        self.assertEqual(context.exception.value, value)
        self.assertIs(type(context.exception.value), type(value))
        self.assertEqual([told(one) for one in passed], before)

    def assert_errors(self, kind, value, call, *args):
        """The call raises this error, with arguments by position, by name, and in part so."""
        names = list(inspect.signature(call).parameters)
        self.assertEqual(len(names), len(args))
        self.assert_error(kind, value, call, *args)
        self.assert_error(kind, value, call, *args[:1], **dict(zip(names[1:], args[1:])))
        self.assert_error(kind, value, call, **dict(list(zip(names, args))[::-1]))

    def assert_answers(self, answer, call, *args):
        """The call gives this answer, with arguments by position, by name, and in part so."""
        names = list(inspect.signature(call).parameters)
        self.assertEqual(len(names), len(args))
        for given in (
            call(*args),
            call(*args[:1], **dict(zip(names[1:], args[1:]))),
            call(**dict(list(zip(names, args))[::-1])),
        ):
            self.assertEqual(given, answer)
            self.assertIs(type(given), type(answer))

    def assert_tells(self, rule, value, moments):
        """A rule has these values at some moments, all changes among them, in normal form."""
        self.assertIs(type(rule), Rule)
        self.assertEqual(
            (rule.base, rule.changes), normal_form(value, rule.week, moments, -100 * GREAT)
        )
        for moment in moments:
            self.assertEqual(rule(moment), value(moment))
