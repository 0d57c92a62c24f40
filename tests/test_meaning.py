"""Section 7: expressions, places, calls, turns, faults, and what is handed to meant."""

import unittest

from keptagain.core import Program
from keptagain.errors import BadInputs, BadMost, NoProgram
from keptagain.meaning import meant

from runs import any_values, refused, run, turns_of, worth


class Meaning(unittest.TestCase):

    def check(self, *cases):
        for text, told in cases:
            with self.subTest(text[:200]):
                self.assertEqual(worth(text), told)

    def check_told(self, *cases):
        for text, told in cases:
            with self.subTest(text[:200]):
                self.assertEqual(run(text), told)


class Expressions(Meaning):

    def test_data_that_stand_for_themselves(self):
        self.check(("5", "5"), ("-7", "-7"), ("yes", "yes"), ("no", "no"), ("none", "none"), ("'a", "a"), ("'()", "()"),
                   ("'(fn (x) x)", "(fn (x) x)"), ("''a", "(quote a)"), ("'(1 . (2 . yes))", "(1 2 . yes)"))

    def test_no_forms(self):
        self.assertEqual([run(text, (), 0) for text in ("", "; a", "(macro m () ((m) 1))")], [("ended", "none", ())] * 3)

    def test_forms_one_behind_another(self):
        self.check_told(("(tell 1) 5 (tell 2) 'end", ("ended", "end", ("1", "2"))), ("1 2 3", ("ended", "3", ())))

    def test_def(self):
        self.check(("(def x 5)", "none"), ("(def x 5) x", "5"), ("(def x 5) (def x (add x 1)) x", "6"),
                   ("(def f (fn () y)) (def y 7) (f)", "7"), ("(def f 1) (def f (fn (n) (if (less n 1) 0 (f (sub n 1))))) (f 3)", "0"))

    def test_names_without_a_worth(self):
        self.check(("x", "fault nobody"), ("(f 1)", "fault nobody"), ("(add 1 x)", "fault nobody"), ("(set x 1)", "fault nobody"),
                   ("(def x y)", "fault nobody"), ("(def x x)", "fault nobody"), ("x (def x 1)", "fault nobody"), ("...", "fault nobody"))

    def test_set_looks_for_its_name_behind_its_expression(self):
        self.check_told(("(set x (tell 1))", ("fault", "nobody", ("1",))))
        self.check(("(macro mk () ((mk f) (f))) (set x (quo 1 0))", "fault nought"), ("(def x 1) (set x (add x 1)) x", "2"),
                   ("(def x 1) (set x 2)", "none"))

    def test_do(self):
        self.check_told(("(do (tell 1) (tell 2) 3)", ("ended", "3", ("1", "2"))), ("(do 1)", ("ended", "1", ())))

    def test_if_reckons_one_branch(self):
        self.check_told(("(if (less 1 2) (tell 'a) (tell 'b))", ("ended", "none", ("a",))),
                        ("(if no (tell 'a) (tell 'b))", ("ended", "none", ("b",))), ("(if 'no 1 2)", ("ended", "2", ())))

    def test_calls_reckon_from_left_to_right(self):
        text = "((do (tell 1) list) (do (tell 2) 'a) (do (tell 3) 'b) (do (tell 4) 'c))"
        self.check_told((text, ("ended", "(a b c)", ("1", "2", "3", "4"))))
        self.check_told(("(5 (tell 1) x (tell 2))", ("fault", "nobody", ("1",))), ("(x (tell 1))", ("fault", "nobody", ())))
        self.check(("(def x 1) (list x (set x 2) x)", "(1 none 2)"), ("(def f list) (f (set f add) 1)", "(none 1)"))


class Functions(Meaning):

    def test_parameters(self):
        self.check(("((fn (x y) (list y x)) 1 2)", "(2 1)"), ("((fn () 5))", "5"), ("((fn x x))", "()"), ("((fn x x) 1)", "(1)"),
                   ("((fn x x) 1 2 3)", "(1 2 3)"), ("((fn (x) (tell x) (list x)) 1)", "(1)"))

    def test_many(self):
        self.check(("((fn (x) x))", "fault many"), ("((fn (x) x) 1 2)", "fault many"), ("((fn () 1) 2)", "fault many"),
                   ("((fn (x y z) x) 1 2)", "fault many"))

    def test_what_is_no_function(self):
        for datum in ("5", "'a", "yes", "no", "none", "'()", "'(1)", "(cell 1)", "'add"):
            self.check(("(" + datum + ")", "fault call"), ("(" + datum + " 1 2)", "fault call"))

    def test_each_call_has_places_of_its_own(self):
        self.check(("(def make (fn (n) (fn () (set n (add n 1)) n))) (def a (make 0)) (def b (make 10)) (list (a) (a) (b) (a) (b))",
                    "(1 2 11 3 12)"),
                   ("(def f (fn (n) (if (less n 1) '() (let ((here n)) (pair (fn () here) (f (sub n 1))))))) "
                    "(def l (f 3)) (list ((head l)) ((head (tail l))))", "(3 2)"))

    def test_places_are_shared_by_all_functions_made_in_them(self):
        self.check(("(def two (fn (n) (list (fn () (set n (add n 1))) (fn () n)))) (def t (two 5)) ((head t)) ((head t)) ((head (tail t)))",
                    "7"))

    def test_names_bound_within_names(self):
        self.check(("((fn (x) (list x ((fn (x) (set x 5) x) 2) x)) 1)", "(1 5 1)"), ("(def x 1) ((fn (x) (set x 2)) 5) x", "1"),
                   ("(def x 1) ((fn (y) (set x y)) 5) x", "5"), ("(((fn (x) (fn (y) (list x y))) 1) 2)", "(1 2)"))

    def test_what_stands_round_about_is_told_by_the_text(self):
        self.check(("(def x 'top) (def f (fn () x)) ((fn (x) (f)) 'called)", "top"))

    def test_parameters_that_are_called_as_core_words_macros_or_primitives(self):
        self.check(("((fn (if) (if 1)) list)", "(1)"), ("((fn (quote) 'a) list)", "fault nobody"),
                   ("((fn (or let) (or (let 1) 2)) list list)", "((1) 2)"), ("((fn (add) (add 1 2)) list)", "(1 2)"),
                   ("((fn (fn do) (fn do)) list 5)", "(5)"), ("((fn (set) (set 1 2)) add)", "3"))

    def test_each_fn_makes_another_function(self):
        self.check(("(def f (fn () (fn () 1))) (list (same (f) (f)) (same f f))", "(no yes)"))


class Prelude(Meaning):

    def test_let(self):
        self.check(("(let ((x 1) (y 2)) (list x y))", "(1 2)"), ("(let () 5)", "5"), ("(let ((x 1)) (tell x) (let ((x (add x 1))) x))", "2"))

    def test_letrec(self):
        self.check(("(letrec ((even (fn (n) (if (same n 0) yes (odd (sub n 1))))) (odd (fn (n) (if (same n 0) no (even (sub n 1)))))) "
                    "(list (even 10) (even 7)))", "(yes no)"), ("(letrec ((x y) (y 2)) (list x y))", "(y 2)"))

    def test_loop(self):
        self.check(("(loop go ((n 5) (l '())) (if (less n 1) l (go (sub n 1) (pair n l))))", "(1 2 3 4 5)"))

    def test_and_or(self):
        self.check(("(and)", "yes"), ("(and 5)", "5"), ("(and 1 no (tell 1))", "no"), ("(and 1 2 3)", "3"), ("(or)", "no"),
                   ("(or 5)", "5"), ("(or no no)", "no"), ("(or no 5 (tell 1))", "5"), ("(let ((t 5)) (or no t))", "5"))
        self.assertEqual(run("(and no (tell 1)) (or 1 (tell 2))"), ("ended", "1", ()))

    def test_when_cond_while(self):
        self.check(("(when yes 1 2)", "2"), ("(when no 1 2)", "none"), ("(cond)", "none"), ("(cond (no 1) (5 2 3) (else 4))", "3"),
                   ("(cond (no 1) (else 2 4))", "4"), ("(cond (no 1))", "none"))
        self.check_told(("(def n 0) (while (less n 3) (tell n) (set n (add n 1)))", ("ended", "none", ("0", "1", "2"))),
                        ("(while no (tell 1))", ("ended", "none", ())))


class Turns(Meaning):

    def test_each_call_is_one(self):
        for text, turns in (("", 0), ("5", 0), ("(fn () (f))", 0), ("(do 1 (if no 1 2))", 0), ("x", 0), ("(set x 1)", 0),
                            ("(list)", 1), ("((fn () 5))", 1), ("((fn () (list)))", 2), ("(list (list) (list))", 3),
                            ("(let ((x (list))) (list x))", 3), ("(use list '())", 2), ("(keep list)", 2), ("(keep (fn (k) (k 1)))", 3),
                            ("(prompt list)", 2), ("(prompt (fn () (part list)))", 4), ("(prompt (fn () (part (fn (k) (k 1)))))", 5),
                            ("(wind list list list)", 4), ("(try list list)", 2), ("(try head list)", 3), ("(try (fn () x) list)", 3),
                            ("(3)", 1), ("(3 (list))", 2), ("((fn (x) x))", 1), ("(fail 1)", 1), ("(use 3 '())", 2)):
            self.assertEqual(turns_of(text), turns, text)

    def test_on_where_a_further_one_would_begin(self):
        text = "(tell 1) (tell 2) (tell 3) 'end"
        self.assertEqual([run(text, (), most) for most in range(5)],
                         [("on", ()), ("on", ("1",)), ("on", ("1", "2")), ("ended", "end", ("1", "2", "3")),
                          ("ended", "end", ("1", "2", "3"))])

    def test_no_turns_at_all(self):
        for text, told in (("", ("ended", "none", ())), ("5", ("ended", "5", ())), ("(def x 1) x", ("ended", "1", ())),
                           ("x", ("fault", "nobody", ())), ("(f)", ("fault", "nobody", ())), ("(list)", ("on", ())),
                           ("(3)", ("on", ())), ("(fn () (f))", ("ended", "#fn", ()))):
            self.assertEqual(run(text, (), 0), told, text)

    def test_20000_turns(self):
        count = "(def f (fn (n) (if (less n 1) 'done (f (sub n 1))))) (f %d)"
        self.assertEqual(run(count % 6665 + " (list)"), ("ended", "()", ()))
        self.assertEqual(turns_of(count % 6665), 19997)
        self.assertEqual(run(count % 6665 + " (list) (list) (list) 'end"), ("ended", "end", ()))
        self.assertEqual(run(count % 6665 + " (list) (list) (list) (list) 'end"), ("on", ()))
        self.assertEqual(run("(def f (fn () (f))) (f)"), ("on", ()))

    def test_fewer_turns_tell_the_beginning_of_what_more_tell(self):
        text = ("(def k none) (def n (cell 0)) (tell (list 'at (keep (fn (r) (do (set k r) 0))))) "
                "(try (fn () (prompt (fn () (wind (fn () (tell 'in)) (fn () (part (fn (p) (p (p 1))))) (fn () (tell 'out))))))"
                " tell) (put n (add (get n) 1)) (if (less (get n) 3) (k (get n)) (fail 'end))")
        wanted = turns_of(text)
        how, datum, told = run(text)
        self.assertEqual((how, datum), ("fault", "end"))
        for most in range(wanted):
            word, so_far = run(text, (), most)
            self.assertEqual((word, so_far), ("on", told[:len(so_far)]))
        self.assertEqual([run(text, (), most) for most in (wanted, wanted + 1, 20000)], [(how, datum, told)] * 3)


class Faults(Meaning):

    def test_try(self):
        self.check(("(try (fn () 5) list)", "5"), ("(try (fn () (head 5)) list)", "(kind)"), ("(try (fn () (fail '(1 2))) list)", "((1 2))"),
                   ("(try (fn () x) list)", "(nobody)"), ("(try (fn () (3)) list)", "(call)"), ("(try (fn () ((fn (x) x))) list)", "(many)"),
                   ("(try (fn () (part list)) list)", "(outside)"), ("(try (fn () (quo 1 0)) list)", "(nought)"))

    def test_what_is_left_to_do_behind_the_try_goes_on(self):
        self.check(("(add 1 (try (fn () (add 2 (fail 5))) (fn (d) (mul d 10))))", "51"),
                   ("(list 1 (try (fn () (list 2 (try (fn () (list 3 (fail 4))) list))) list))", "(1 (2 (4)))"))
        self.check_told(("(tell (try (fn () (fail 1)) list)) 'end", ("ended", "end", ("(1)",))))

    def test_the_innermost_try_catches(self):
        self.check(("(try (fn () (try (fn () (fail 1)) (fn (d) (fail (list d 2))))) (fn (d) (list d 3)))", "((1 2) 3)"))

    def test_the_handler_is_called_outside_of_its_try(self):
        self.check(("(try (fn () (fail 1)) (fn (d) (fail (add d 1))))", "fault 2"), ("(try (fn () (fail 1)) 5)", "fault call"),
                   ("(try (fn () (fail 1)) (fn () 5))", "fault many"), ("(try 5 list)", "(call)"), ("(try (fn (x) x) list)", "(many)"))

    def test_a_try_is_gone_when_its_function_is_done(self):
        self.check(("(try (fn () 1) list) (fail 2)", "fault 2"), ("(do (try (fn () 1) list) (head 5))", "fault kind"))

    def test_a_call_that_is_the_last_thing_within_a_try_is_within_it(self):
        self.check(("(def f (fn (n) (if (less n 1) (fail 'deep) (f (sub n 1))))) (try (fn () (f 100)) list)", "(deep)"))

    def test_without_a_try_the_run_ends_at_once(self):
        self.check_told(("(tell 1) (fail 2) (tell 3)", ("fault", "2", ("1",))),
                        ("(wind (fn () (tell 'in)) (fn () (fail 1)) (fn () (tell 'out)))", ("fault", "1", ("in",))),
                        ("(add 1 (list (tell 1) (head 5) (tell 2)))", ("fault", "kind", ("1",))))

    def test_the_datum_itself_is_handed_on(self):
        self.check(("(def p '(1)) (try (fn () (fail p)) (fn (d) (same d p)))", "yes"))


class HandedIn(unittest.TestCase):

    def test_no_program(self):
        for value in any_values():
            self.assertEqual(refused(meant, value, (), 0), (NoProgram, value))

    def test_bad_inputs(self):
        program = Program("5")
        for value in any_values() + (5, "5", ["5"], ("5", 5), ("5", None), (("5",),), ("",), ("5 5",), ("5", "(a"), ("B",), (" ",), ("'",),
                                     ("5",) * 101, (True,), (["5"],), ("5", ")")):
            if value != ():
                self.assertEqual(refused(meant, program, value, 0), (BadInputs, value))

    def test_none_to_100_inputs(self):
        text = "(def n 0) (while (not (same (ask) none)) (set n (add n 1))) n"
        for many in (0, 1, 2, 99, 100):
            self.assertEqual(run(text, ("5",) * many), ("ended", str(many), ()))
        self.assertEqual(refused(meant, Program(text), ("5",) * 101, 0), (BadInputs, ("5",) * 101))

    def test_inputs_are_texts_of_one_datum(self):
        for text, told in (("5", "5"), (" (a . b) ; c", "(a . b)"), ("'a\n", "(quote a)"), ("()", "()"), ("none", "none"),
                           ("if", "if"), ("7" * 2001, "#long"), ("(" * 40 + ")" * 40, "(" * 40 + ")" * 40)):
            self.assertEqual(run("(ask)", (text,)), ("ended", told, ()))
        self.assertEqual(refused(meant, Program(""), ("(" * 41 + ")" * 41,), 0), (BadInputs, ("(" * 41 + ")" * 41,)))

    def test_inputs_are_looked_at_whether_asked_for_or_not(self):
        self.assertEqual(refused(meant, Program("5"), ("5", "("), 5), (BadInputs, ("5", "(")))

    def test_bad_most(self):
        program = Program("5")
        for value in any_values() + (-1, 20001, True, False, "5", (5,), [5], None):
            self.assertEqual(refused(meant, program, (), value), (BadMost, value))
        for value in (0, 1, 19999, 20000):
            self.assertEqual(meant(program, (), value), ("ended", "5", ()))

    def test_in_this_sequence(self):
        self.assertEqual(refused(meant, None, None, None), (NoProgram, None))
        self.assertEqual(refused(meant, None, (), -1), (NoProgram, None))
        self.assertEqual(refused(meant, "5", ("(",), 5), (NoProgram, "5"))
        self.assertEqual(refused(meant, Program("x"), 5, -1), (BadInputs, 5))
        self.assertEqual(refused(meant, Program("x"), ("a b",), True), (BadInputs, ("a b",)))

    def test_they_are_not_changed_and_equal_calls_tell_equal_things(self):
        program, inputs = Program("(def c (cell (ask))) (put c (list (get c) (ask))) (tell (get c)) (set c '(q))"), ("1", "(2)")
        forms, names = program.forms, program.names
        first = meant(program, inputs, 100)
        self.assertEqual([meant(program, inputs, 100) for _ in range(3)], [first] * 3)
        self.assertEqual((program.forms, program.names, inputs), (forms, names, ("1", "(2)")))
        self.assertEqual(meant(Program(program.text), inputs, 100), first)

    def test_what_is_told_are_tuples(self):
        for text, most in (("(tell 1)", 5), ("(tell 1)", 0), ("(fail 1)", 5)):
            told = meant(Program(text), (), most)
            self.assertIsInstance(told, tuple)
            self.assertIsInstance(told[-1], tuple)


if __name__ == "__main__":
    unittest.main()
