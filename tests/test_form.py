"""The form of the package's code: what shared/LANGUAGE.md asks of names that are properties."""

import ast
import pathlib
import unittest

import keptagain


def trees():
    """(file name, what its text says) of each file of the package."""
    folder = pathlib.Path(keptagain.__file__).parent
    return [(path.name, ast.parse(path.read_text(encoding="utf-8"))) for path in sorted(folder.glob("*.py"))]


def marks_of(method):
    return [ast.unparse(mark) for mark in method.decorator_list]


def without_setter(tree):
    """The names of the properties of a tree's classes that their class gives no setter."""
    found = set()
    for place in ast.walk(tree):
        if isinstance(place, ast.ClassDef):
            methods = [row for row in place.body if isinstance(row, ast.FunctionDef)]
            names = {method.name for method in methods if marks_of(method) == ["property"]}
            found |= {name for name in names if all([name + ".setter"] != marks_of(method) for method in methods)}
    return found


def stored(tree):
    """(row, name) of each attribute that is assigned or deleted in a tree."""
    return [(place.lineno, place.attr) for place in ast.walk(tree)
            if isinstance(place, ast.Attribute) and not isinstance(place.ctx, ast.Load)]


class TestProperties(unittest.TestCase):

    def test_all_properties_are_found(self):
        found = {name: sorted(without_setter(tree)) for name, tree in trees() if without_setter(tree)}
        self.assertEqual(found, {
            "machine.py": ["depth", "ending", "live", "pieces", "program", "rows", "things", "told", "turns"],
            "benches.py": ["deeds", "ending", "program", "told", "turns"],
        })

    def test_no_name_of_a_property_without_setter_is_assigned_of_any_object(self):
        kept = set().union(*[without_setter(tree) for _, tree in trees()])
        wrong = [(name, row, word) for name, tree in trees() for row, word in stored(tree) if word in kept]
        self.assertEqual(wrong, [])

    def test_what_is_assigned_is_found_in_each_form(self):
        tree = ast.parse("\n".join([
            "class Box:",
            "    @property",
            "    def many(self):",
            "        return 1",
            "    @property",
            "    def few(self):",
            "        return 1",
            "    @few.setter",
            "    def few(self, value):",
            "        pass",
            "a.many = 1",
            "a.b.many += 1",
            "c, (a.many, *a.many) = d",
            "for a.many in d: pass",
            "with d as a.many: pass",
            "a.many: int = 1",
            "del a.many",
            "a = b.many",
            "a.many[1] = 2",
        ]))
        self.assertEqual(without_setter(tree), {"many"})
        rows = sorted([row for row, name in stored(tree) if name == "many"])
        self.assertEqual(rows, [11, 12, 13, 13, 14, 15, 16, 17])


if __name__ == "__main__":
    unittest.main()
