"""[1.1]: the error classes, what they derive from, and what they keep."""

import unittest

from postedbag import errors
from tests.samples import odd_values

WITH_MESSAGE = (
    "InvalidProgram", "InvalidBag", "InvalidMode", "InvalidRun", "InvalidWay", "InvalidPlace", "InvalidUses",
    "InvalidPlan", "InvalidOperation", "InvalidCommand",
)
KEEPING = (
    ("ParseError", errors.BagError, "line"),
    ("UnknownName", KeyError, "name"),
    ("UnknownSite", KeyError, "site"),
    ("InvalidNumber", IndexError, "value"),
    ("NothingToUndo", LookupError, "many"),
    ("Refused", ArithmeticError, "name"),
    ("TooMany", OverflowError, "limit"),
)


def classes_of_errors():
    """All error classes that the file has, by their names."""
    found = vars(errors).items()
    return {name: value for name, value in found if isinstance(value, type)}


class ErrorsTest(unittest.TestCase):
    def test_there_are_these_and_no_others(self):
        names = {"BagError", *WITH_MESSAGE, *[name for name, _, _ in KEEPING]}
        self.assertEqual(set(classes_of_errors()), names)

    def test_the_first_one_is_a_value_error(self):
        self.assertEqual(errors.BagError.__bases__, (ValueError,))

    def test_those_with_a_message_derive_from_it_directly(self):
        for name in WITH_MESSAGE:
            self.assertEqual(getattr(errors, name).__bases__, (errors.BagError,), name)

    def test_those_that_keep_something_derive_from_just_one_class(self):
        for name, base, _ in KEEPING:
            self.assertEqual(getattr(errors, name).__bases__, (base,), name)

    def test_none_derives_from_another_one_of_the_package_but_from_the_first(self):
        found = classes_of_errors()
        for name, one in found.items():
            for other in found.values():
                expected = one is other or (other is errors.BagError and name in (*WITH_MESSAGE, "ParseError"))
                self.assertEqual(issubclass(one, other), expected, (one, other))

    def test_messages_are_taken(self):
        for name in ("BagError", *WITH_MESSAGE):
            with self.assertRaises(errors.BagError) as caught:
                raise getattr(errors, name)("some words")
            self.assertIs(type(caught.exception), getattr(errors, name))

    def test_what_is_taken_is_kept_under_its_name(self):
        for name, base, attribute in KEEPING:
            for value in ["src", ("src", 0), 400, *odd_values()]:
                error = getattr(errors, name)(value)
                self.assertIsInstance(error, base)
                self.assertIs(getattr(error, attribute), value, name)

    def test_what_is_taken_can_be_told_by_its_word(self):
        self.assertEqual(errors.ParseError(line=3).line, 3)
        self.assertEqual(errors.UnknownName(name="src").name, "src")
        self.assertEqual(errors.UnknownSite(site=("src", 0)).site, ("src", 0))
        self.assertEqual(errors.InvalidNumber(value=-1).value, -1)
        self.assertEqual(errors.NothingToUndo(many=2).many, 2)
        self.assertEqual(errors.Refused(name="calm").name, "calm")
        self.assertEqual(errors.TooMany(limit=400).limit, 400)

    def test_nothing_else_is_kept(self):
        for name, _, attribute in KEEPING:
            self.assertEqual(vars(getattr(errors, name)(5)), {attribute: 5})


if __name__ == "__main__":
    unittest.main()
