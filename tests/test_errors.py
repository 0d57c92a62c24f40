"""Section 16, and what section 2 says of errors."""

import unittest

from keptagain import errors
from keptagain.errors import KeptError

NAMES = (
    "BadMost", "BadText", "BadForm", "TooLong", "BadCore", "BadInputs", "NoProgram", "NoMachine", "NotOn",
    "BadNumber", "BadPace", "BadImage", "NoPart", "NothingToUndo", "NothingToRedo", "NoBlock", "BadJournal", "BadTask",
)


def any_values():
    """Values of each kind that section 2 lists."""
    return (0, -7, 10 ** 30, True, False, None, "", "text", "a\nb", (), (1, 3), [], [1, [2]], {}, {"a": [1]},
            KeptError(1), ((), [()]))


class Errors(unittest.TestCase):

    def test_eighteen_names(self):
        self.assertEqual(len(set(NAMES)), 18)
        for name in NAMES + ("KeptError",):
            with self.subTest(name):
                self.assertIsInstance(getattr(errors, name), type)

    def test_kept_error_derives_from_value_error(self):
        self.assertEqual(KeptError.__bases__, (ValueError,))

    def test_all_others_lie_directly_below_kept_error(self):
        for name in NAMES:
            with self.subTest(name):
                self.assertEqual(getattr(errors, name).__bases__, (KeptError,))

    def test_they_are_unlike(self):
        self.assertEqual(len({getattr(errors, name) for name in NAMES}), 18)

    def test_each_is_called_by_its_name_and_defined_in_errors(self):
        for name in NAMES + ("KeptError",):
            with self.subTest(name):
                made = getattr(errors, name)
                self.assertEqual((made.__name__, made.__module__), (name, "keptagain.errors"))

    def test_each_keeps_any_value_itself(self):
        for name in NAMES + ("KeptError",):
            for value in any_values():
                with self.subTest(name=name, value=value):
                    self.assertIs(getattr(errors, name)(value).value, value)

    def test_each_can_be_raised_and_caught_as_any_class_above(self):
        for name in NAMES:
            for above in (getattr(errors, name), KeptError, ValueError):
                with self.subTest(name=name, above=above):
                    with self.assertRaises(above) as caught:
                        raise getattr(errors, name)((1, 3))
                    self.assertEqual(caught.exception.value, (1, 3))

    def test_one_is_not_caught_as_another(self):
        with self.assertRaises(errors.BadForm):
            try:
                raise errors.BadForm(1)
            except errors.BadText:
                self.fail("BadForm is no BadText")

    def test_a_value_that_is_a_tuple_stays_one_argument(self):
        self.assertEqual(errors.BadCore((2, "if")).value, (2, "if"))
        self.assertEqual(errors.NothingToUndo(None).value, None)

    def test_value_is_the_only_argument(self):
        for name in NAMES + ("KeptError",):
            with self.subTest(name):
                with self.assertRaises(TypeError):
                    getattr(errors, name)()
                with self.assertRaises(TypeError):
                    getattr(errors, name)(1, 2)


if __name__ == "__main__":
    unittest.main()
