import inspect
import unittest

from finalblocks import errors
from tests.values import ANY_VALUES, same

PLAIN = ["ByZero", "BadText", "NotFinal", "NoWay", "UnlikeTrees", "NothingToUndo", "NothingToRedo"]
GIVEN = [
    "BadNumber", "BadName", "BadParent", "BadWeight", "BadShare", "BadVote", "BadRate", "BadCount", "BadChoice",
    "BadPaper", "NoBlock", "NoVoter", "InUse",
]


class Classes(unittest.TestCase):
    """[7], [9]: which classes there are, and what they derive from."""

    def test_the_file_defines_just_the_listed_classes(self):
        defined = [name for name, _ in inspect.getmembers(errors, inspect.isclass)]
        self.assertEqual(defined, sorted(["BlockError", *PLAIN, *GIVEN, "BadLine"]))

    def test_all_stand_in_this_file(self):
        for name in ["BlockError", *PLAIN, *GIVEN, "BadLine"]:
            self.assertEqual(getattr(errors, name).__module__, "finalblocks.errors", name)

    def test_block_error_is_a_direct_subclass_of_value_error(self):
        self.assertEqual(errors.BlockError.__bases__, (ValueError,))

    def test_each_other_one_is_a_direct_subclass_of_block_error(self):
        for name in [*PLAIN, *GIVEN, "BadLine"]:
            self.assertEqual(getattr(errors, name).__bases__, (errors.BlockError,), name)

    def test_they_are_caught_as_value_errors(self):
        for name in PLAIN:
            with self.assertRaises(ValueError):
                raise getattr(errors, name)()
        for name in GIVEN + ["BadLine"]:
            with self.assertRaises(ValueError):
                raise getattr(errors, name)(1)


class Attributes(unittest.TestCase):
    """[9]: an error keeps the values that it is created with."""

    def test_those_without_attributes_are_created_without_values(self):
        for name in PLAIN:
            error = getattr(errors, name)()
            self.assertIs(error.__class__, getattr(errors, name))
            self.assertFalse(hasattr(error, "given"), name)
            self.assertFalse(hasattr(error, "line"), name)

    def test_given_by_position_and_by_name(self):
        for name in GIVEN:
            for value in ANY_VALUES:
                made = getattr(errors, name)
                self.assertTrue(same(made(value).given, value), (name, value))
                self.assertTrue(same(made(given=value).given, value), (name, value))
                self.assertFalse(hasattr(made(value), "line"), name)

    def test_line_by_position_and_by_name(self):
        for value in ANY_VALUES:
            self.assertTrue(same(errors.BadLine(value).line, value), value)
            self.assertTrue(same(errors.BadLine(line=value).line, value), value)
        self.assertFalse(hasattr(errors.BadLine(3), "given"))

    def test_other_values_are_kept_too(self):
        value = object()
        self.assertIs(errors.NoBlock(value).given, value)
        self.assertIs(errors.BadLine(value).line, value)

    def test_a_value_is_needed(self):
        for name in GIVEN + ["BadLine"]:
            with self.assertRaises(TypeError):
                getattr(errors, name)()

    def test_an_error_keeps_its_value_when_it_is_raised(self):
        with self.assertRaises(errors.BadVote) as caught:
            raise errors.BadVote(("ann", "b", "b"))
        self.assertEqual(caught.exception.given, ("ann", "b", "b"))

    def test_each_error_has_a_value_of_its_own(self):
        one, other = errors.NoBlock("a"), errors.NoBlock("b")
        self.assertEqual((one.given, other.given), ("a", "b"))


if __name__ == "__main__":
    unittest.main()
