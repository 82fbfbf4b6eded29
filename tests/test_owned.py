"""What operators and properties run changes only what it created in a plain form (L5, L28)."""

import pathlib
import textwrap
import unittest

from tests import owned

FOLDER = pathlib.Path(__file__).resolve().parent.parent / "dueclocks"
TIMES = """
    def __mul__(self, other):
        return 3
"""


def package_texts():
    return [path.read_text(encoding="ascii") for path in sorted(FOLDER.rglob("*.py"))]


def box(rows, name="__invert__", mark="", more=TIMES, behind=""):
    """Return the text of a class whose method has some rows, with a product of its own."""
    body = textwrap.indent(textwrap.dedent(rows).strip(), " " * 8)
    return f"class Box:\n    {mark}\n    def {name}(self):\n{body}\n{more}\n{behind}\n"


class OwnedTest(unittest.TestCase):
    def assert_fault(self, name, *texts):
        self.assertEqual([one for one, _ in owned.faults(texts)], [name])

    def assert_none(self, *texts):
        self.assertEqual(owned.faults(texts), [])

    def test_the_package(self):
        self.assert_none(*package_texts())

    def test_what_the_package_runs_is_gone_through(self):
        run = {node.name for node in owned.Package(package_texts()).run()}
        for name in (
            "__invert__", "__rshift__", "__or__", "__and__", "__mul__", "__rmul__", "__eq__",
            "__contains__", "__getitem__", "__len__", "week", "base", "changes", "speeds", "moment",
            "left", "is_paused", "latest_changes", "telling_changes", "lanes_of", "latest_start",
            "beside", "check_rising", "passing_moments", "delay", "check_speeds",
        ):
            self.assertIn(name, run)

    def test_the_package_with_the_list_made_by_a_sign(self):
        plain = "base = [0 for _ in range(self.week)]"
        self.assertEqual(len([text for text in package_texts() if plain in text]), 1)
        for sign in ("[0] * self.week", "self.week * [0]", "[] + [0] * self.week + self.rows"):
            texts = [text.replace(plain, f"base = {sign}") for text in package_texts()]
            if sign.startswith("[] +"):
                self.assert_none(*texts)
            else:
                self.assert_fault("__invert__", *texts)

    def test_lists_made_by_a_sign(self):
        for change in ("rows[0] = 1", "rows.append(1)", "del rows[0]", "rows[0] += 1", "rows.pop()",
                       "rows[1:2] = [3]", "rows, rows[0] = rows, 2"):
            for sign in ("[0] * self.many", "self.many * [0]", "self.rows * 2", "self.many * self.rows"):
                rows = f"rows = {sign}\n{change}\nreturn rows"
                self.assert_fault("__invert__", box(rows).replace("rows, rows", "_, rows"))
                self.assert_fault("many", box(rows, "many", "@property").replace("rows, rows", "_, rows"))

    def test_either_method_gives_the_sign_a_meaning(self):
        rows = "rows = [0] * 3\nrows[0] = 1\nreturn rows"
        for more in (TIMES, TIMES.replace("__mul__", "__rmul__")):
            self.assert_fault("__invert__", box(rows, more=more))
        self.assert_none(box(rows, more=""))
        self.assert_fault("__invert__", box(rows, more=""), "class Other:\n" + TIMES)

    def test_plain_forms(self):
        for form in ("[0 for _ in range(3)]", "[]", "[1, 2]", "list(self.rows)", "{}", "sorted(self.rows)",
                     "self.rows[:]", "self.rows[1:]", "{at: 0 for at in self.rows}", "self.rows.copy()",
                     "self.rows + [1]", "[*self.rows]", "dict(self.rows)"):
            self.assert_none(box(f"rows = {form}\nrows[0] = 1\nreturn rows"))
            self.assert_none(box(f"rows = []\nrows = {form}\nrows.pop()\nreturn rows"))

    def test_other_forms(self):
        for form in ("self.rows", "self.rows[0]", "self.made()", "made()", "[0] * 3", "rows",
                     "self.rows or []", "self.rows + self.rows", "min([1], [2])"):
            self.assert_fault("__invert__", box(f"rows = {form}\nrows[0] = 1\nreturn rows"))
            self.assert_fault("__invert__", box(f"rows = []\nrows = {form}\nrows.pop()\nreturn rows"))

    def test_names_that_something_else_binds(self):
        self.assert_fault("__invert__", box("for rows in self.rows:\n    rows.append(1)\nreturn 1"))
        self.assert_fault("__invert__", box("rows = []\nfor rows in self.rows:\n    rows[0] = 1\nreturn 1"))
        self.assert_fault("__invert__", box("rows, two = [], []\nrows[0] = 1\nreturn 1"))

    def test_attributes_and_items_of_held_ones(self):
        for change in ("self.rows.append(1)", "self.rows[0] = 1", "self.many = 2", "self.many += 1",
                       "self.rows[0][1] = 2", "self.rows[0].append(2)", "self.box.rows = []"):
            self.assert_fault("__invert__", box(f"{change}\nreturn 1"))

    def test_lists_in_lists(self):
        rows = "rows = FORM\nrows[0].append(1)\nreturn rows"
        for form in ("[[] for _ in range(3)]", "[{} for _ in self.rows]", "[list(row) for row in self.rows]"):
            self.assert_none(box(rows.replace("FORM", form)))
        for form in ("[row for row in self.rows]", "list(self.rows)", "[[0] * 2 for _ in self.rows]", "self.rows[:]"):
            self.assert_fault("__invert__", box(rows.replace("FORM", form)))

    def test_what_is_called_counts(self):
        changing = "def made(many):\n    rows = [0] * many\n    rows[0] = 1\n    return rows\n"
        plain = changing.replace("[0] * many", "[0 for _ in range(many)]")
        between = "def between(many):\n    return made(many)\n"
        for call in ("made(3)", "between(3)", "sorted([3], key=made)"):
            rows = f"return {call}"
            self.assert_fault("made", box(rows), between, changing)
            self.assert_none(box(rows), between, plain)
        self.assert_none(box("return 3"), between, changing)
        method = textwrap.indent("def made(self):\n    rows = [0] * 3\n    rows[0] = 1\n    return rows", " " * 4)
        self.assert_fault("made", box("return self.made()", more=TIMES + method))
        self.assert_none(box("return 3", more=TIMES + method))

    def test_a_constructor_counts(self):
        start = textwrap.indent("def __init__(self):\n    self.rows = []\n    ROW", " " * 4)
        self.assert_none(box("return Box()", more=TIMES + start.replace("ROW", "self.many = 3")))
        self.assert_fault("__init__", box("return Box()", more=TIMES + start.replace("ROW", "self.box.many = 3")))
        bad = "rows = [0] * 3; rows[0] = 1; self.rows = rows"
        self.assert_fault("__init__", box("return Box()", more=TIMES + start.replace("ROW", bad)))
        self.assert_none(box("return 3", more=TIMES + start.replace("ROW", bad)))


if __name__ == "__main__":
    unittest.main()
