"""The examples of DOC.md, as they stand in examples.txt; a name is the one that was set last, in any section."""

import doctest
import importlib
import inspect
import pathlib
import unittest

from unwound import errors

MODULES = ("words", "terms", "programs", "rows", "meanings", "webs", "pebbles", "loops", "paths", "sweeps",
           "rowloops", "nests", "trees", "growth", "alike", "tails", "walks", "texts", "judge", "desk")
EXAMPLES = pathlib.Path(__file__).with_name("examples.txt")
README = pathlib.Path(__file__).parent.parent / "README.md"


def functions():
    """The functions of the package, each under its name."""
    found = {}
    for module in MODULES:
        of_module = importlib.import_module("unwound." + module)
        found.update(inspect.getmembers(of_module, inspect.isfunction))
    return found


def sections():
    """For each section: its heading, and pairs of what is asked and what stands below it, or None."""
    found = []
    for line in EXAMPLES.read_text().splitlines():
        if line.startswith("# "):
            found.append((line[2:], []))
        elif line.startswith(">>> "):
            found[-1][1].append((line[4:], None))
        elif line:
            found[-1][1][-1] = (found[-1][1][-1][0], line)
    return found


def told(asked, names):
    """What asked gives, or raises, as it is written in the document."""
    try:
        return repr(eval(asked, names))
    except (LookupError, ValueError) as error:
        values = ", ".join(f"{name}={value!r}" for name, value in vars(error).items())
        return f"raises {error.__class__.__name__}({values})"


class ExamplesTest(unittest.TestCase):

    def test_all(self):
        names, many = functions(), {}
        for heading, examples in sections():
            for asked, expected in examples:
                if expected is None:
                    exec(asked, names)
                    continue
                with self.subTest(section=heading, asked=asked):
                    if not expected.startswith("raises "):
                        expected = repr(eval(expected, dict(names)))
                    self.assertEqual(told(asked, names), expected)
                    many[heading] = many.get(heading, 0) + 1
        self.assertEqual(list(many.values()), [6, 5, 6, 7, 7, 5, 6, 6, 5, 5, 4, 5, 6, 5, 6, 6, 6, 8, 5, 4])

    def test_errors_are_those_of_the_package(self):
        for asked, kind in (("root_of(())", errors.Unfit), ("called(((\"leaf\", (\"at\", ())),), 1)", errors.NoPlace)):
            with self.assertRaises(kind):
                eval(asked, functions())

    def test_readme(self):
        failed, tried = doctest.testfile(str(README), module_relative=False)
        self.assertEqual((failed, tried), (0, 36))


if __name__ == "__main__":
    unittest.main()
