"""Section 8: each primitive, its kinds and its faults."""

import unittest

from keptagain.primitives import primitives

from runs import run, turns_of, worth

COUNTS = (
    ("add", 2, 2), ("ask", 0, 0), ("cell", 1, 1), ("fail", 1, 1), ("get", 1, 1), ("head", 1, 1), ("keep", 1, 1),
    ("kind", 1, 1), ("less", 2, 2), ("list", 0, None), ("mul", 2, 2), ("not", 1, 1), ("pair", 2, 2), ("part", 1, 1),
    ("prompt", 1, 1), ("put", 2, 2), ("quo", 2, 2), ("rem", 2, 2), ("same", 2, 2), ("sub", 2, 2), ("tail", 1, 1),
    ("tell", 1, 1), ("try", 2, 2), ("use", 2, 2), ("wind", 3, 3),
)
# A datum of each kind.
DATA = ("5", "'a", "yes", "no", "none", "'()", "'(1)", "'(1 . 2)", "(cell 1)", "add", "(fn () 1)", "(keep (fn (k) k))")
GREATEST = "1" + "0" * 1000


class Primitives(unittest.TestCase):

    def check(self, *cases):
        for text, told in cases:
            with self.subTest(text[:200]):
                self.assertEqual(worth(text), told)

    def check_kinds(self, call, *let):
        """Of all DATA in the place of D in call, just those that are let make no fault kind."""
        for datum in DATA:
            with self.subTest(call.replace("D", datum)):
                self.assertEqual(worth(call.replace("D", datum)) != "fault kind", datum in let)


class Table(Primitives):

    def test_all_of_them_ascending(self):
        self.assertEqual(primitives(), COUNTS)
        self.assertIsInstance(primitives(), tuple)

    def test_each_is_a_function_at_the_top_at_first(self):
        for name, least, most in COUNTS:
            self.check((name, "#fn"), ("(kind " + name + ")", "fn"))
        self.check(("(list " + " ".join(name for name, _, _ in COUNTS) + ")", "(" + " ".join(["#fn"] * 25) + ")"))

    def test_many_ahead_of_all_else(self):
        for name, least, most in COUNTS:
            for many in range(5):
                if least <= many and (most is None or many <= most):
                    self.assertNotEqual(worth("(" + name + " none" * many + ")"), "fault many")
                else:
                    for datum in DATA:
                        self.check(("(" + name + (" " + datum) * many + ")", "fault many"))

    def test_each_call_is_one_turn_also_one_that_faults(self):
        for text in ("(add 1 2)", "(add 1)", "(add 1 yes)", "(quo 1 0)", "(head 5)", "(list 1 2 3)", "(tell 1)", "(ask)",
                     "(fail 1)", "(cell 1)", "(part 5)", "(part 1 2)", "(3 4)", "(use 1)"):
            self.assertEqual(turns_of(text), 1, text)
            self.assertEqual(run(text, (), 0), ("on", ()))
        self.assertEqual(turns_of("(add (add 1 2) (add 3 4))"), 3)

    def test_they_can_be_bound_set_and_defined_anew(self):
        self.check(("(fn (add) (add 1 2))", "#fn"), ("((fn (add) (add 1 2)) sub)", "-1"), ("(def add sub) (add 1 2)", "-1"),
                   ("(set add sub) (add 1 2)", "-1"), ("(set head 5) head", "5"), ("(def list 5) (list 1)", "fault call"),
                   ("(def old add) (def add 5) (old 1 2)", "3"), ("(let ((tell list)) (tell 1))", "(1)"),
                   ("(def keep add) (keep 1 2)", "3"), ("(set use (fn x x)) (use 1)", "(1)"))

    def test_a_run_begins_with_all_of_them_whatever_another_one_did(self):
        run("(set add sub) (def head 5)")
        self.check(("(add 1 2)", "3"), ("(head '(1))", "1"))


class Numbers(Primitives):

    def test_add_sub_mul(self):
        self.check(("(add 2 3)", "5"), ("(add -2 -3)", "-5"), ("(sub 2 3)", "-1"), ("(sub -2 -3)", "1"), ("(mul -4 3)", "-12"),
                   ("(mul 0 -5)", "0"), ("(add 99999999999999999999 1)", "100000000000000000000"))

    def test_quo_and_rem(self):
        for n in (-7, -6, -1, 0, 1, 6, 7):
            for m in (-3, -2, -1, 1, 2, 3):
                self.check((f"(list (quo {n} {m}) (rem {n} {m}))", f"({n // m} {n % m})"))

    def test_nought(self):
        self.check(("(quo 5 0)", "fault nought"), ("(rem 5 0)", "fault nought"), ("(quo 0 0)", "fault nought"))

    def test_less(self):
        self.check(("(less 2 3)", "yes"), ("(less 3 3)", "no"), ("(less 4 3)", "no"), ("(less -1 0)", "yes"))

    def test_kinds_from_left_to_right(self):
        for name in ("add", "sub", "mul", "quo", "rem", "less"):
            self.check_kinds("(" + name + " D 1)", "5")
            self.check_kinds("(" + name + " 1 D)", "5")
            self.check(("(" + name + " 'a 'b)", "fault kind"), ("(" + name + " 'a 0)", "fault kind"))

    def test_kind_ahead_of_nought_and_great(self):
        self.check(("(quo 'a 0)", "fault kind"), ("(rem yes 0)", "fault kind"), ("(add " + GREATEST + " 'a)", "fault kind"))

    def test_great_beyond_the_bounds(self):
        most, less, more = GREATEST, "9" * 1000, GREATEST[:-1] + "1"
        self.check(("(add " + less + " 1)", most), ("(sub -" + less + " 1)", "-" + most), ("(mul " + most + " -1)", "-" + most),
                   ("(add " + most + " 1)", "fault great"), ("(sub -" + most + " 1)", "fault great"),
                   ("(sub 1 -" + most + ")", "fault great"), ("(mul " + most + " 2)", "fault great"),
                   ("(mul " + most + " -2)", "fault great"), ("(add " + more + " -1)", most), ("(add -" + more + " 1)", "-" + most),
                   ("(mul 1" + "0" * 500 + " 1" + "0" * 500 + ")", most), ("(mul -1" + "0" * 500 + " 1" + "0" * 501 + ")", "fault great"),
                   ("(sub " + most + " 0)", most), ("(add " + more + " 0)", "fault great"))

    def test_integers_of_texts_can_be_greater(self):
        great = "7" * 1500
        self.check((great, great), ("(list " + great + ")", "(" + great + ")"), ("(less " + GREATEST + " " + great + ")", "yes"),
                   ("(quo " + great + " 1)", great), ("(rem " + great + " 10)", "7"), ("(sub " + great + " " + great + ")", "0"),
                   ("(same " + great + " " + great + ")", "yes"), ("7" * 5000, "#long"), ("(sub " + "7" * 5000 + " " + "7" * 4999 + "6)", "1"))

    def test_doubling_goes_on_up_to_great(self):
        self.check(("(def x 1) (try (fn () (while yes (set x (add x x)))) (fn (d) (list d (less x " + GREATEST + "))))", "(great yes)"))
        self.check(("(def n 0) (def x 1) (try (fn () (while yes (set x (mul x 10)) (set n (add n 1)))) (fn (d) (list d n)))",
                    "(great 1000)"))


class Same(Primitives):

    def test_single_data(self):
        kinds = ("5", "6", "-5", "'a", "'b", "yes", "no", "none", "'()", "'five")
        for at, left in enumerate(kinds):
            for other, right in enumerate(kinds):
                self.check(("(same " + left + " " + right + ")", "yes" if at == other else "no"))

    def test_great_numbers_that_are_equal(self):
        self.check(("(same (mul 100000000000 100000000000) 10000000000000000000000)", "yes"))

    def test_the_very_pairs(self):
        self.check(("(same '(1) '(1))", "no"), ("(same (list 1) (list 1))", "no"), ("(let ((x '(1))) (same x x))", "yes"),
                   ("(let ((x (list 1))) (same x (head (list x))))", "yes"), ("(let ((x '(1 2))) (same (tail x) (tail x)))", "yes"),
                   ("(let ((x (pair 1 2))) (same x (pair 1 2)))", "no"), ("((fn x (same x x)) 1)", "yes"),
                   ("(same ((fn x x) 1) ((fn x x) 1))", "no"), ("(let ((l '(1 2))) (same l (use list l)))", "no"))

    def test_a_quote_is_made_once_each_pair_at_its_place(self):
        self.check(("(def f (fn () '(1 (2)))) (list (same (f) (f)) (same (tail (f)) (tail (f))))", "(yes yes)"),
                   ("(def f (fn (x) (fn () '(1)))) (same ((f 1)) ((f 2)))", "yes"),
                   ("(macro m () ((m x) '(x x))) (def q (m (1))) (list (same (head q) (head (tail q))) q)", "(no ((1) (1)))"),
                   ("(macro m () ((m x) (same 'x 'x))) (m (1))", "no"), ("(macro m () ((m x) (same 'x 'x))) (m a)", "yes"),
                   ("(macro m () ((m) '(1))) (same (m) (m))", "no"),
                   ("(macro m () ((m x) '(x . x))) (def q (m (1 2))) (list q (same (head q) (tail q)))", "(((1 2) 1 2) no)"))

    def test_the_very_cells_functions_and_rests(self):
        self.check(("(same (cell 1) (cell 1))", "no"), ("(let ((c (cell 1))) (same c c))", "yes"), ("(same add add)", "yes"),
                   ("(same add sub)", "no"), ("(let ((plus add)) (same plus add))", "yes"), ("(same (fn () 1) (fn () 1))", "no"),
                   ("(def f (fn () 1)) (same f f)", "yes"), ("(def f (fn () (fn () 1))) (same (f) (f))", "no"),
                   ("(let ((k (keep (fn (r) r)))) (same k k))", "yes"), ("(keep (fn (a) (keep (fn (b) (same a b)))))", "no"),
                   ("(prompt (fn () (part (fn (k) (same k k)))))", "yes"), ("(same (cell '()) '())", "no"))


class Lists(Primitives):

    def test_pair_head_tail_list(self):
        self.check(("(pair 1 2)", "(1 . 2)"), ("(pair 1 '(2))", "(1 2)"), ("(pair '() '())", "(())"), ("(head '(1 2))", "1"),
                   ("(tail '(1 2))", "(2)"), ("(tail '(1 . 2))", "2"), ("(list)", "()"), ("(list 1)", "(1)"),
                   ("(list 1 'a yes no none '() '(1 . 2))", "(1 a yes no none () (1 . 2))"),
                   ("(list" + " 1" * 500 + ")", "(" + " ".join(["1"] * 500) + ")"))

    def test_of_no_pairs(self):
        self.check(("(head '())", "fault empty"), ("(tail '())", "fault empty"))
        for name in ("head", "tail"):
            self.check_kinds("(" + name + " D)", "'()", "'(1)", "'(1 . 2)")

    def test_use(self):
        self.check(("(use add '(1 2))", "3"), ("(use list '())", "()"), ("(use (fn x x) '(1 2 3))", "(1 2 3)"),
                   ("(use (fn () 5) '())", "5"), ("(use use (list add '(1 2)))", "3"), ("(use list '(1 (2) . (3)))", "(1 (2) 3)"))

    def test_use_wants_a_list_to_its_end(self):
        self.check_kinds("(use list D)", "'()", "'(1)")
        self.check(("(use list '(1 2 . 3))", "fault kind"), ("(use list (pair 1 (pair 2 none)))", "fault kind"))

    def test_use_calls_as_a_call_does(self):
        self.check(("(use add '(1))", "fault many"), ("(use add '(1 a))", "fault kind"), ("(use 5 '(1))", "fault call"),
                   ("(use 'add '(1 2))", "fault call"), ("(use 5 5)", "fault kind"), ("(use (fn (x) x) '())", "fault many"))
        self.assertEqual([turns_of(text) for text in ("(use add '(1 2))", "(use 5 '())", "(use list 5)", "(use use (list list '()))")],
                         [2, 2, 1, 4])

    def test_long_lists(self):
        self.check(("(def f (fn (n l) (if (less n 1) l (f (sub n 1) (pair n l))))) (def l (f 4000 '())) (def g (fn x (head (tail x)))) "
                    "(list (use g l) l)", "#long"),
                   ("(def f (fn (n l) (if (less n 1) l (f (sub n 1) (pair n l))))) (def g (fn x (head (tail x)))) (use g (f 4000 '()))",
                    "2"))


class Kinds(Primitives):

    def test_kind(self):
        for datum, told in zip(DATA, ("number", "symbol", "truth", "truth", "none", "empty", "pair", "pair", "cell", "fn", "fn", "rest")):
            self.check(("(kind " + datum + ")", told))
        self.check(("(prompt (fn () (part kind)))", "rest"), ("(kind (kind 1))", "symbol"), ("(kind '...)", "symbol"))

    def test_not(self):
        for datum in DATA:
            self.check(("(not " + datum + ")", "yes" if datum == "no" else "no"))

    def test_only_no_counts_as_no(self):
        for datum in DATA:
            self.check(("(if " + datum + " 1 2)", "2" if datum == "no" else "1"))


class Cells(Primitives):

    def test_cells(self):
        self.check(("(get (cell 5))", "5"), ("(put (cell 5) 6)", "none"), ("(let ((c (cell 5))) (put c 6) (get c))", "6"),
                   ("(let ((c (cell 5)) (d (cell 5))) (put c 6) (list (get c) (get d)))", "(6 5)"), ("(cell 5)", "#cell"),
                   ("(let ((c (cell 5))) (put c c) (same c (get c)))", "yes"), ("(let ((c (cell 5))) (put c (list c)) (get c))", "(#cell)"))

    def test_kinds(self):
        self.check_kinds("(get D)", "(cell 1)")
        self.check_kinds("(put D 1)", "(cell 1)")
        self.check_kinds("(put (cell 0) D)", *DATA)


class TellAndAsk(unittest.TestCase):

    def test_tell(self):
        self.assertEqual(run("(tell 1) (tell '(a . b)) (tell (list add (cell 1) no)) (tell (tell 'x))"),
                         ("ended", "none", ("1", "(a . b)", "(#fn #cell no)", "x", "none")))

    def test_what_is_long(self):
        self.assertEqual(run("(tell '(" + "a " * 999 + "b)) (tell '(" + "a " * 998 + "b))"),
                         ("ended", "none", ("#long", "(" + "a " * 998 + "b)")))
        self.assertEqual(run("(def x 'a) (def n 0) (while (less n 300) (set x (pair x x)) (set n (add n 1))) (tell (list x)) x"),
                         ("ended", "#long", ("#long",)))

    def test_ask(self):
        self.assertEqual(run("(list (ask) (ask) (ask) (ask))", ("5", "'a", "(x . y)")), ("ended", "(5 (quote a) (x . y) none)", ()))
        self.assertEqual(run("(ask)"), ("ended", "none", ()))
        self.assertEqual(run("(def l '()) (while (set l (pair (ask) l)) (if (same (head l) 'end) (fail l) 0))", ("1", "2", " end ")),
                         ("fault", "(end 2 1)", ()))

    def test_going_back_asks_no_input_again(self):
        text = "(def k none) (tell (list (keep (fn (r) (set k r))) (ask))) (k 1)"
        self.assertEqual(run(text, ("1", "2"), 13), ("on", ("(none 1)", "(1 2)", "(1 none)")))

    def test_what_was_asked_is_a_datum_like_others(self):
        self.assertEqual(run("(let ((x (ask)) (y (ask))) (list (same x y) (same x x) (kind x)))", ("(1)", "(1)")),
                         ("ended", "(no yes pair)", ()))
        self.assertEqual(run("(kind (ask))", ("yes",)), ("ended", "truth", ()))


class Fail(Primitives):

    def test_fail(self):
        for datum, told in zip(DATA, ("5", "a", "yes", "no", "none", "()", "(1)", "(1 . 2)", "#cell", "#fn", "#fn", "#rest")):
            self.check(("(fail " + datum + ")", "fault " + told))
        self.assertEqual(run("(fail '(" + "a " * 1000 + "))"), ("fault", "#long", ()))


if __name__ == "__main__":
    unittest.main()
