"""unwound.errors: the classes, their bases, their attributes [2]."""

import copy
import inspect
import unittest

from unwound import errors

BASES = {
    "NoPlace": LookupError, "BadLine": ValueError, "CanNot": ValueError, "TooMuch": ValueError,
    "Unfit": ValueError, "Ring": ValueError, "Endless": ValueError}
HELD = {"NoPlace": ("place", 7), "BadLine": ("line", 3), "Ring": ("names", (0, 2)), "Endless": ("names", (1,))}
BARE = ("CanNot", "TooMuch", "Unfit")


class ErrorsTest(unittest.TestCase):

    def test_one_direct_base(self):
        for name, base in BASES.items():
            self.assertEqual(getattr(errors, name).__bases__, (base,), name)

    def test_no_other_class(self):
        own = [name for name, value in vars(errors).items() if inspect.isclass(value)]
        self.assertEqual(sorted(own), sorted(BASES))

    def test_defined_in_this_file(self):
        for name in BASES:
            self.assertEqual(getattr(errors, name).__module__, "unwound.errors")

    def test_values_by_place_and_by_name(self):
        for name, (attribute, value) in HELD.items():
            kind = getattr(errors, name)
            for error in (kind(value), kind(**{attribute: value})):
                self.assertEqual(vars(error), {attribute: value})
                self.assertIsInstance(str(error), str)

    def test_names_are_a_tuple_also_from_a_list_and_copied(self):
        for name in ("Ring", "Endless"):
            names = [0, 1]
            for error in (getattr(errors, name)(names), getattr(errors, name)(names=names)):
                self.assertEqual(error.names, (0, 1))
                names.append(2)
                self.assertEqual(error.names, (0, 1))
                names.pop()

    def test_those_without_values(self):
        for name in BARE:
            self.assertEqual(vars(getattr(errors, name)()), {})

    def test_missing_and_needless_values(self):
        for name in HELD:
            with self.assertRaises(TypeError):
                getattr(errors, name)()
            with self.assertRaises(TypeError):
                getattr(errors, name)((1,), (2,))

    def test_caught_by_the_base_and_by_no_other(self):
        for name, base in BASES.items():
            kind = getattr(errors, name)
            with self.assertRaises(base):
                raise kind(*[HELD[name][1]] if name in HELD else [])
            for other in BASES:
                self.assertEqual(issubclass(kind, getattr(errors, other)), other == name)

    def test_a_copy_holds_the_same(self):
        for name, (attribute, value) in HELD.items():
            error = copy.copy(getattr(errors, name)(value))
            self.assertEqual(getattr(error, attribute), value)


if __name__ == "__main__":
    unittest.main()
