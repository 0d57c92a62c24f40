"""Section 6: core forms and programs."""

import unittest

from keptagain.core import Program, globals_in
from keptagain.errors import BadCore, BadForm, BadNumber, BadText, NoProgram, TooLong
from keptagain.macros import expanded

from runs import any_values, refused

LONG = "'(" + "a " * 20000 + ")"


class Programs(unittest.TestCase):

    TEXTS = ("", "; a", "1", "(def f (fn (x) (or x 1))) (f 2)", "(macro m () ((m) 1)) (m) (def b 2) (def a 1) (def b 3)",
             "(let ((x 1) (y '(a . b))) (set x y) (list x))")

    def test_text_and_forms(self):
        for text in self.TEXTS:
            program = Program(text)
            self.assertEqual((program.text, program.forms), (text, expanded(text)))
            self.assertIsInstance(program.forms, tuple)

    def test_names_are_those_of_defs_ascending_each_once(self):
        self.assertEqual(Program("(def b 1) (def a (set c 2)) (f d) (def b 3) (def a1 1)").names, ("a", "a1", "b"))
        self.assertEqual(Program("(macro mk () ((mk x) (def x 1)) ((mk) (def z 2))) (mk y) (mk)").names, ("y", "z"))
        self.assertEqual([Program(text).names for text in ("", "f", "'(def x 1)", "(f 'def)")], [()] * 4)

    def test_what_is_long_is_there_in_full(self):
        text = "(f " + "a " * 5000 + "b)"
        self.assertEqual(Program(text).forms, (text,))

    def test_they_are_equal_if_their_texts_are(self):
        for text in self.TEXTS:
            self.assertTrue(Program(text) == Program(text))
            self.assertFalse(Program(text) != Program(text))
            for other in self.TEXTS:
                if text != other:
                    self.assertFalse(Program(text) == Program(other))
                    self.assertTrue(Program(text) != Program(other))

    def test_they_are_not_equal_if_only_their_forms_are(self):
        for left, right in (("1", "1 "), ("(or)", "no"), ("'a", "(quote a)"), ("(fn (x) x)", "(fn (y) y)")):
            self.assertEqual(Program(left).forms, Program(right).forms)
            self.assertFalse(Program(left) == Program(right))

    def test_they_are_equal_to_nothing_else(self):
        for value in any_values() + ("1", ("1",)):
            self.assertFalse(Program("1") == value)
            self.assertTrue(Program("1") != value)

    def test_making_one_changes_none(self):
        one = Program("(def x 1)")
        Program("(def y 2)")
        self.assertEqual((one.forms, one.names), (("(def x 1)",), ("x",)))


class Refused(unittest.TestCase):

    def check(self, *cases):
        for text, error, value in cases:
            with self.subTest(text[:100] if isinstance(text, str) else text):
                self.assertEqual(refused(Program, text), (error, value))

    def test_numbers_of_parts(self):
        self.check(*[(text, BadCore, (1, word)) for text, word in (
            ("(quote)", "quote"), ("(quote a b)", "quote"), ("(fn ())", "fn"), ("(fn x)", "fn"), ("(fn (x y))", "fn"),
            ("(if)", "if"), ("(if 1)", "if"), ("(if 1 2)", "if"), ("(if 1 2 3 4)", "if"), ("(set x)", "set"),
            ("(set x 1 2)", "set"), ("(do)", "do"), ("(def x)", "def"), ("(def x 1 2)", "def"))])
        for text in ("'a", "(fn () 1)", "(fn x 1 2 3)", "(fn (x) x x)", "(if 1 2 3)", "(set x 1)", "(do 1)", "(do 1 2 3)",
                     "(def x 1)", "(f)", "(f 1 2 3)", "((f))"):
            self.assertIsNone(refused(Program, text), text)

    def test_macro_forms_are_counted(self):
        self.check(("1 (macro m () ((m) 1)) (m) (if)", BadCore, (4, "if")), ("(macro m () ((m) (do))) (m)", BadCore, (2, "do")))

    def test_the_first_form_that_has_one(self):
        self.check(("1 (do) (if)", BadCore, (2, "do")), ("(f (g (set x))) (do)", BadCore, (1, "set")))

    def test_the_first_thing_in_it_from_left_to_right(self):
        self.check(*[(text, BadCore, (1, word)) for text, word in (
            ("(if (do))", "if"), ("(do (if))", "if"), ("(f (do) (if))", "do"), ("((if) (do))", "if"), ("(f (do (if 1)) (quote))", "if"),
            ("(fn (x) (if) (do))", "if"), ("(fn (x) (do))", "do"), ("(set x (do) (if))", "set"),
            ("(set x (do))", "do"), ("(def x (set y))", "set"), ("(def x (do) (if))", "def"), ("(def x)", "def"),
            ("(if 1 (fn ()) (quote))", "fn"), ("(f (if 1 2 3) (g (do 1) (h (quote a b))) (do))", "quote"),
            ("(f 1 (g (fn x)) (set x))", "fn"))])

    def test_what_is_quoted_is_not_looked_at(self):
        for text in ("'(if)", "'(quote)", "(f '(do) '((fn)))", "(quote (set))"):
            self.assertIsNone(refused(Program, text), text)

    def test_words_that_are_bound_or_written_by_macros(self):
        self.assertIsNone(refused(Program, "(fn (if do) (if) (do))"))
        self.check(("(let ((x 1)))", BadCore, (1, "fn")), ("(when 1)", BadCore, (1, "do")), ("(cond (1))", BadCore, (1, "do")),
                   ("(loop f ())", BadCore, (1, "fn")), ("(or 1 (if))", BadCore, (1, "if")))

    def test_a_whole_form_is_looked_at_however_long(self):
        self.check(("(do" + " 1" * 15000 + " (if))", BadCore, (1, "if")), ("(f" + " (g 1)" * 4000 + " (do))", BadCore, (1, "do")))

    def test_bad_text_bad_form_and_too_long_as_expanded_tells_them(self):
        for text in ("(f", "B", ")", "()", "(f . 5)", "1 (fn (x x) 1)", "(let)", LONG, "1 " + LONG):
            self.assertEqual(refused(Program, text), refused(expanded, text), text[:50])
        self.check(("(f", BadText, (1, 3)), ("1 ()", BadForm, 2), ("1 " + LONG, TooLong, 2))
        for value in any_values():
            if not isinstance(value, str):
                self.check((value, BadText, (0, 0)))

    def test_bad_core_behind_all_of_them(self):
        self.check(("(if) (f", BadText, (1, 8)), ("(if) ()", BadForm, 2), ("(if) " + LONG, TooLong, 2))


class Globals(unittest.TestCase):

    def check(self, text, *told):
        program = Program(text)
        self.assertEqual(len(told), len(program.forms))
        for number, names in enumerate(told, start=1):
            found = globals_in(program, number)
            self.assertEqual(found, names)
            self.assertIsInstance(found, tuple)

    def test_names_that_stand_as_expressions(self):
        self.check("x 5 yes (f x y) (if a b c) (do d e) ((g)) none", ("x",), (), (), ("f", "x", "y"), ("a", "b", "c"),
                   ("d", "e"), ("g",), ())

    def test_names_that_are_set(self):
        self.check("(set x y) (f (set a (set b 1))) (fn (x) (set x 1) (set z 2))", ("x", "y"), ("a", "b", "f"), ("z",))

    def test_each_once_and_ascending(self):
        self.check("(c b a b c (set c b)) (b10 b9 b a.b ... +)", ("a", "b", "c"), ("+", "...", "a.b", "b", "b10", "b9"))

    def test_bound_names_are_none(self):
        self.check("(fn (x) x y (fn y y)) (fn x (x y))", ("y",), ("y",))

    def test_the_name_of_a_def_is_none(self):
        self.check("(def x 5) (def x (f x)) (def x (fn () x))", (), ("f", "x"), ("x",))

    def test_what_is_quoted_is_none(self):
        self.check("'x '(f x) (f 'g) (if 'a '(set b c) 'd)", (), (), ("f",), ())

    def test_of_what_macros_write(self):
        self.check("(or a b) (letrec ((x f)) (x y)) (macro m () ((m x) (add x one))) (m (fn (add) (m add)))",
                   ("a", "b"), ("f", "y"), ("add", "one"))

    def test_the_place_among_the_forms_without_macro_forms(self):
        program = Program("(macro m () ((m) 1)) a (macro n () ((n) 1)) b")
        self.assertEqual([globals_in(program, 1), globals_in(program, 2)], [("a",), ("b",)])
        self.assertEqual(refused(globals_in, program, 3), (BadNumber, 3))

    def test_long_forms(self):
        self.check("(f" + " x y" * 9000 + ")", ("f", "x", "y"))

    def test_no_program(self):
        for value in any_values():
            self.assertEqual(refused(globals_in, value, 1), (NoProgram, value))

    def test_bad_number(self):
        program = Program("a b")
        for value in any_values() + (0, 3, -1, (), "1"):
            self.assertEqual(refused(globals_in, program, value), (BadNumber, value))
            self.assertEqual(refused(globals_in, Program(""), value), (BadNumber, value))
        self.assertEqual(refused(globals_in, Program(""), 1), (BadNumber, 1))

    def test_no_program_ahead_of_bad_number(self):
        self.assertEqual(refused(globals_in, "a", 0), (NoProgram, "a"))
        self.assertEqual(refused(globals_in, None, None), (NoProgram, None))


if __name__ == "__main__":
    unittest.main()
