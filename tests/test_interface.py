"""The interface at the end of the document: files, names, names of parameters, and what is passed by them."""

import importlib
import inspect
import os
import unittest

from keptagain import errors

FUNCTIONS = (
    ("reading", "printed", ("text",)),
    ("reading", "read", ("text",)),
    ("macros", "expanded", ("text",)),
    ("core", "globals_in", ("program", "number")),
    ("primitives", "primitives", ()),
    ("meaning", "meant", ("program", "inputs", "most")),
    ("compiling", "bodies", ("program",)),
    ("compiling", "coded", ("program",)),
    ("compiling", "heights", ("program",)),
    ("collecting", "collect", ("machine",)),
    ("collecting", "held", ("machine",)),
    ("collecting", "swept", ("program", "inputs", "most", "pace")),
    ("images", "image", ("machine",)),
    ("images", "read_image", ("text",)),
    ("journals", "journal", ("bench",)),
    ("journals", "read_journal", ("text",)),
    ("library", "part_text", ("name",)),
    ("library", "parts", ()),
    ("library", "with_parts", ("names", "text")),
)
# Methods, each with its parameters, and attributes.
CLASSES = (
    ("core", "Program", {"__init__": ("text",), "__eq__": ("other",)}, ("text", "forms", "names")),
    ("machine", "Machine", {"__init__": ("program", "inputs"), "step": (), "run": ("most",), "frame": ("number",)},
     ("program", "told", "turns", "rows", "ending", "depth", "live", "pieces", "things")),
    ("benches", "Bench", {"__init__": ("text", "inputs"), "__len__": (), "__eq__": ("other",), "steps": ("number",), "goes": ("number",),
                          "collect": (), "machine": (), "image": (), "undo": (), "redo": (), "tried": ("look", "keep"), "keep": (), "copy": ()},
     ("program", "told", "turns", "ending", "deeds")),
    ("desk", "Desk", {"__init__": ("text",), "say": ("line",)}, ("bench",)),
)
ERRORS = ("KeptError", "BadMost", "BadText", "BadForm", "TooLong", "BadCore", "BadInputs", "NoProgram", "NoMachine", "NotOn", "BadNumber", "BadPace",
          "BadImage", "NoPart", "NothingToUndo", "NothingToRedo", "NoBlock", "BadJournal", "BadTask")


def found(file, name):
    return getattr(importlib.import_module("keptagain." + file), name)


class Interface(unittest.TestCase):

    def test_functions_are_defined_in_their_files(self):
        for file, name, _ in FUNCTIONS:
            with self.subTest(name):
                function = found(file, name)
                self.assertTrue(inspect.isfunction(function))
                self.assertEqual((function.__module__, function.__name__), ("keptagain." + file, name))

    def test_parameters_are_called_as_told(self):
        for file, name, parameters in FUNCTIONS:
            with self.subTest(name):
                self.assertEqual(tuple(inspect.signature(found(file, name)).parameters), parameters)

    def test_prelude_is_a_name_of_its_file(self):
        self.assertIn("PRELUDE", vars(importlib.import_module("keptagain.prelude")))
        self.assertIs(type(found("prelude", "PRELUDE")), str)

    def test_errors_are_defined_in_their_file(self):
        for name in ERRORS:
            self.assertEqual((getattr(errors, name).__module__, inspect.isclass(getattr(errors, name))), ("keptagain.errors", True))

    def test_classes_are_defined_in_their_files(self):
        for file, name, _, _ in CLASSES:
            with self.subTest(name):
                made = found(file, name)
                self.assertTrue(inspect.isclass(made))
                self.assertEqual((made.__module__, made.__name__), ("keptagain." + file, name))

    def test_methods_stand_in_the_class_itself_with_these_parameters(self):
        for file, name, methods, _ in CLASSES:
            for method, parameters in methods.items():
                with self.subTest(name=name, method=method):
                    self.assertIn(method, vars(found(file, name)))
                    self.assertEqual(tuple(inspect.signature(vars(found(file, name))[method]).parameters), ("self",) + parameters)

    def test_keep_of_tried_is_passed_by_name_and_is_false_without(self):
        keep = inspect.signature(found("benches", "Bench").tried).parameters["keep"]
        self.assertEqual((keep.kind, keep.default), (keep.KEYWORD_ONLY, False))

    def test_attributes_are_there_on_each_object_from_the_beginning(self):
        program = found("core", "Program")("(tell 1)")
        objects = {"Program": program, "Machine": found("machine", "Machine")(program, ()), "Bench": found("benches", "Bench")("(tell 1)", ()),
                   "Desk": found("desk", "Desk")("text 1\n(tell 1)\ninputs 0\ndeeds")}
        for _, name, _, attributes in CLASSES:
            for attribute in attributes:
                with self.subTest(name=name, attribute=attribute):
                    self.assertTrue(hasattr(objects[name], attribute))


class ByName(unittest.TestCase):

    def test_functions(self):
        from keptagain.collecting import collect, held, swept
        from keptagain.compiling import bodies, coded, heights
        from keptagain.core import Program, globals_in
        from keptagain.images import image, read_image
        from keptagain.journals import journal, read_journal
        from keptagain.library import part_text, with_parts
        from keptagain.macros import expanded
        from keptagain.meaning import meant
        from keptagain.reading import printed, read
        self.assertEqual(read("a b"), read(text="a b"))
        self.assertEqual(printed("'a"), printed(text="'a"))
        self.assertEqual(expanded("(and a)"), expanded(text="(and a)"))
        program = Program(text="(f x)")
        self.assertEqual(program, Program("(f x)"))
        self.assertEqual(globals_in(program, 1), globals_in(number=1, program=program))
        self.assertEqual(meant(program, (), 5), meant(most=5, inputs=(), program=program))
        for look in (bodies, coded, heights):
            self.assertEqual(look(program), look(program=program))
        self.assertEqual(swept(program, (), 5, 1), swept(pace=1, most=5, inputs=(), program=program))
        machine = found("machine", "Machine")(inputs=(), program=program)
        self.assertEqual((held(machine), image(machine)), (held(machine=machine), image(machine=machine)))
        self.assertEqual((collect(machine=machine), machine.frame(number=0), machine.run(most=0)), (0, None, 0))
        self.assertEqual(image(read_image(text=image(machine))), image(machine))
        bench = found("benches", "Bench")(inputs=(), text="(f x)")
        self.assertEqual((bench.steps(number=1), bench.goes(number=1), bench.tried(keep=True, look=lambda bench: 5)), (1, 0, 5))
        self.assertEqual(read_journal(text=journal(bench=bench)), bench)
        self.assertEqual(found("desk", "Desk")(text=journal(bench)).say(line="turns"), "0")
        self.assertEqual(part_text("undo"), part_text(name="undo"))
        self.assertEqual(with_parts((), "5"), with_parts(text="5", names=()))

    def test_methods_of_which_nothing_is_told_return_none(self):
        bench = found("benches", "Bench")("(tell 1)", ())
        bench.steps(1)
        self.assertEqual((bench.undo(), bench.redo(), bench.tried(lambda bench: bench.keep())), (None, None, None))


class Package(unittest.TestCase):

    def test_one_folder_of_plain_files(self):
        folder = os.path.dirname(importlib.import_module("keptagain").__file__)
        names = [name for name in os.listdir(folder) if name != "__pycache__"]
        self.assertIn("__init__.py", names)
        self.assertTrue(all(name.endswith(".py") and name == name.lower() for name in names))


if __name__ == "__main__":
    unittest.main()
