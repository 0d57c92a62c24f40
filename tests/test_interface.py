"""The interface at the end of the document: files, names, and names of parameters."""

import importlib
import inspect
import unittest

FUNCTIONS = (
    ("reading", "printed", ("text",)),
    ("reading", "read", ("text",)),
)


class Interface(unittest.TestCase):

    def test_functions_are_defined_in_their_files(self):
        for file, name, _ in FUNCTIONS:
            with self.subTest(name):
                found = getattr(importlib.import_module("keptagain." + file), name)
                self.assertTrue(inspect.isfunction(found))
                self.assertEqual((found.__module__, found.__name__), ("keptagain." + file, name))

    def test_parameters_are_called_as_told(self):
        for file, name, parameters in FUNCTIONS:
            with self.subTest(name):
                found = getattr(importlib.import_module("keptagain." + file), name)
                self.assertEqual(tuple(inspect.signature(found).parameters), parameters)

    def test_arguments_may_be_passed_by_position_or_name(self):
        from keptagain.reading import printed, read
        self.assertEqual(read("a b"), read(text="a b"))
        self.assertEqual(printed("'a"), printed(text="'a"))

    def test_prelude_is_a_name_of_its_file(self):
        module = importlib.import_module("keptagain.prelude")
        self.assertIn("PRELUDE", vars(module))


if __name__ == "__main__":
    unittest.main()
