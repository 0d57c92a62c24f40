"""The interface at the end of the document: files, names, and names of parameters."""

import importlib
import inspect
import unittest

FUNCTIONS = (
    ("reading", "printed", ("text",)),
    ("reading", "read", ("text",)),
    ("macros", "expanded", ("text",)),
    ("core", "globals_in", ("program", "number")),
    ("primitives", "primitives", ()),
    ("meaning", "meant", ("program", "inputs", "most")),
)


class Interface(unittest.TestCase):

    def test_functions_are_defined_in_their_files(self):
        for file, name, _ in FUNCTIONS:
            with self.subTest(name):
                found = getattr(importlib.import_module("keptagain." + file), name)
                self.assertTrue(inspect.isfunction(found))
                self.assertEqual((found.__module__, found.__name__), ("keptagain." + file, name))

    def test_parameters_are_called_as_told(self):
        for file, name, parameters in FUNCTIONS:
            with self.subTest(name):
                found = getattr(importlib.import_module("keptagain." + file), name)
                self.assertEqual(tuple(inspect.signature(found).parameters), parameters)

    def test_arguments_may_be_passed_by_position_or_name(self):
        from keptagain.core import Program, globals_in
        from keptagain.macros import expanded
        from keptagain.meaning import meant
        from keptagain.reading import printed, read
        self.assertEqual(read("a b"), read(text="a b"))
        self.assertEqual(printed("'a"), printed(text="'a"))
        self.assertEqual(expanded("(and a)"), expanded(text="(and a)"))
        program = Program(text="(f x)")
        self.assertEqual(program, Program("(f x)"))
        self.assertEqual(globals_in(program, 1), globals_in(number=1, program=program))
        self.assertEqual(meant(program, (), 5), meant(most=5, inputs=(), program=program))

    def test_prelude_is_a_name_of_its_file(self):
        module = importlib.import_module("keptagain.prelude")
        self.assertIn("PRELUDE", vars(module))

    def test_program_is_a_class_of_its_file(self):
        from keptagain.core import Program
        self.assertTrue(inspect.isclass(Program))
        self.assertEqual((Program.__module__, Program.__name__), ("keptagain.core", "Program"))
        self.assertEqual(tuple(inspect.signature(Program).parameters), ("text",))
        for method in ("__init__", "__eq__"):
            self.assertIn(method, vars(Program))
        for attribute in ("text", "forms", "names"):
            self.assertTrue(hasattr(Program(""), attribute))


if __name__ == "__main__":
    unittest.main()
