import unittest

from dueclocks import errors

NAMES = [
    "InvalidWeek", "InvalidSpeed", "NeverOpen", "InvalidChange", "InvalidAmount",
    "InvalidSpan", "InvalidMoment", "UnlikeWeeks", "NotRising", "WrongState",
    "NothingToUndo", "TooMany", "Unreadable",
]
VALUES = [
    0, -7, 10 ** 31, "", "a text", True, False, None, (), (2, 3), [], [1, [2]], {"a": 1},
    object(),
]


def classes():
    return [getattr(errors, name) for name in ["DueError"] + NAMES]


class ErrorsTest(unittest.TestCase):
    def test_due_error_is_a_value_error_alone(self):
        self.assertEqual(errors.DueError.__bases__, (ValueError,))

    def test_each_other_class_is_a_due_error_alone(self):
        for name in NAMES:
            self.assertEqual(getattr(errors, name).__bases__, (errors.DueError,), name)

    def test_fourteen_unlike_classes_in_their_module(self):
        self.assertEqual(len({id(kind) for kind in classes()}), 14)
        for kind in classes():
            self.assertEqual(kind.__module__, "dueclocks.errors")

    def test_value_is_the_very_object_by_position_and_by_name(self):
        for kind in classes():
            for value in VALUES:
                self.assertIs(kind(value).value, value)
                self.assertIs(kind(value=value).value, value)

    def test_a_value_is_kept_for_each_error_apart(self):
        one, other = errors.DueError(1), errors.InvalidWeek([2])
        self.assertEqual([one.value, other.value], [1, [2]])

    def test_exactly_one_argument(self):
        for kind in classes():
            with self.assertRaises(TypeError):
                kind()
            with self.assertRaises(TypeError):
                kind(1, 2)
            with self.assertRaises(TypeError):
                kind(number=1)

    def test_caught_as_itself_as_due_error_and_as_value_error(self):
        for kind in classes():
            for caught in (kind, errors.DueError, ValueError):
                value = [kind.__name__]
                with self.assertRaises(caught) as context:
                    raise kind(value)
                self.assertIs(context.exception.value, value)

    def test_not_caught_as_another_class(self):
        for kind in classes()[1:]:
            for other in classes()[1:]:
                self.assertEqual(isinstance(kind(0), other), kind is other)


if __name__ == "__main__":
    unittest.main()
