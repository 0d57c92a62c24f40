"""Section 5: what macros make of texts."""

import itertools
import unittest

from keptagain.errors import BadText
from keptagain.macros import expanded
from keptagain.reading import read

from runs import any_values, refused


class Expanded(unittest.TestCase):

    def check(self, *cases):
        for text, told in cases:
            with self.subTest(text):
                self.assertEqual(expanded(text), told if isinstance(told, tuple) else (told,))


class CoreForms(Expanded):
    """Texts without macros."""

    def test_no_forms(self):
        self.check(("", ()), (" ; a\n", ()), ("(macro m () ((m) 1))", ()))

    def test_single_data(self):
        self.check(("5 -7 yes no none", ("5", "-7", "yes", "no", "none")), ("x add ...", ("x", "add", "...")))

    def test_integers_of_any_size(self):
        for number in ("7" * 2001, "-" + "9" * 4300, "1" + "0" * 4300, "123" * 3000, "-" + "50" * 4000):
            self.assertEqual(expanded(number), (number,))
            self.assertEqual(expanded("(f '" + number + ")"), ("(f (quote " + number + "))",))

    def test_what_is_long_is_told_in_full(self):
        text = "(f " + "a " * 5000 + "b)"
        self.check((text, text), ("'(" + "a " * 5000 + ". b)", "(quote (" + "a " * 5000 + ". b))"))

    def test_calls(self):
        self.check(("(f)", "(f)"), ("((f x) (g) 1)", "((f x) (g) 1)"), ("(3 4)", "(3 4)"), ("(yes no)", "(yes no)"))

    def test_core_words_any_number_of_things_behind_them(self):
        for word in ("if", "do"):
            for behind in ("", " a", " a b", " a b c", " a b c d"):
                self.check(("(" + word + behind + ")",) * 2)
        self.check(("(quote)",) * 2, ("(quote a b)",) * 2, ("(set x)",) * 2, ("(set x 1 2)",) * 2, ("(def x)",) * 2,
                   ("(def x 1 2)",) * 2, ("(fn ())",) * 2, ("(fn (x))", "(fn (~1))"), ("(fn x)", "(fn ~1)"))

    def test_quotes_stay_as_they_are(self):
        self.check(("'(if . fn)", "(quote (if . fn))"), ("'()", "(quote ())"), ("''a", "(quote (quote a))"),
                   ("'(fn (x x) (let) (or . 5) macro def)", "(quote (fn (x x) (let) (or . 5) macro def))"),
                   ("(fn (x) 'x '(x (x . x)))", "(fn (~1) (quote x) (quote (x (x . x))))"))

    def test_fn_binds_in_all_its_expressions(self):
        self.check(("(fn (x) x y x)", "(fn (~1) ~1 y ~1)"), ("(fn x x (f x))", "(fn ~1 ~1 (f ~1))"),
                   ("(fn (x y) (y x))", "(fn (~1 ~2) (~2 ~1))"), ("(fn () x)",) * 2,
                   ("(fn (x) x) x", ("(fn (~1) ~1)", "x")))

    def test_the_innermost_fn_counts(self):
        self.check(("(fn (x y) (fn (x) x y) x)", "(fn (~1 ~2) (fn (~3) ~3 ~2) ~1)"),
                   ("(fn x (fn x x) x)", "(fn ~1 (fn ~2 ~2) ~1)"))

    def test_numbers_go_over_the_whole_text_as_the_fns_are_come_to(self):
        self.check(("(fn (x) (fn (y) y) (fn (z) z)) (fn (a b) 1) (macro m () ((m) 1)) (fn c c)",
                    ("(fn (~1) (fn (~2) ~2) (fn (~3) ~3))", "(fn (~4 ~5) 1)", "(fn ~6 ~6)")),
                   ("((fn (a) a) (fn (b) b) (if (fn (c) c) 1 (fn d d)))",
                    "((fn (~1) ~1) (fn (~2) ~2) (if (fn (~3) ~3) 1 (fn ~4 ~4)))"))

    def test_set_of_bound_names_and_globals(self):
        self.check(("(fn (x) (set x (set y x)))", "(fn (~1) (set ~1 (set y ~1)))"), ("(set x 1)",) * 2)

    def test_def_at_the_top(self):
        self.check(("(def x (fn (x) x)) x (def x 2)", ("(def x (fn (~1) ~1))", "x", "(def x 2)")))

    def test_any_name_can_be_bound_and_then_is_nothing_else(self):
        self.check(("(fn (if) (if 1))", "(fn (~1) (~1 1))"), ("(fn (quote) 'a)", "(fn (~1) (~1 a))"),
                   ("(fn fn (fn (a a) fn))", "(fn ~1 (~1 (a a) ~1))"),
                   ("(fn (def macro set do) (def 1) (macro 2) (set 3) (do) do)",
                    "(fn (~1 ~2 ~3 ~4) (~1 1) (~2 2) (~3 3) (~4) ~4)"),
                   ("(fn (or let) (or) (let 1) or)", "(fn (~1 ~2) (~1) (~2 1) ~1)"),
                   ("(fn (...) ... (f ...))", "(fn (~1) ~1 (f ~1))"), ("(fn (add) (add 1 2))", "(fn (~1) (~1 1 2))"))

    def test_it_is_a_tuple_and_the_same_each_time(self):
        text = "(def f (fn (x) (or x (let ((y x)) y)))) (f 1)"
        self.assertIsInstance(expanded(text), tuple)
        self.assertEqual(expanded(text), expanded(text))


class Patterns(Expanded):

    def test_names_fit_any_datum(self):
        for datum in ("5", "a", "yes", "()", "(a . b)", "((()))", "...", "if", "m"):
            self.check(("(macro m () ((m x) 'x)) (m " + datum + ")", "(quote x)".replace("x", datum)))

    def test_a_name_that_has_the_macros_name_is_one_like_others(self):
        self.check(("(macro m () ((m m) (f m))) (m 5)", "(f 5)"), ("(macro m () ((m m ...) (f m ...))) (m 5 6)", "(f 5 6)"))

    def test_integers_truths_none_and_empty_lists_fit_what_is_alike(self):
        rules = "((m 5) 'five) ((m -1) 'less) ((m yes) 'y) ((m no) 'n) ((m none) 'w) ((m ()) 'e) ((m x) 'else)"
        for datum, told in (("5", "five"), ("-1", "less"), ("yes", "y"), ("no", "n"), ("none", "w"), ("()", "e"),
                            ("6", "else"), ("-5", "else"), ("(5)", "else"), ("(())", "else"), ("nones", "else"),
                            ("'5", "else")):
            self.check(("(macro m () " + rules + ") (m " + datum + ")", "(quote " + told + ")"))

    def test_integers_of_any_size(self):
        self.check(("(macro m () ((m " + "7" * 5000 + ") 1) ((m x) 2)) (m " + "7" * 5000 + ") (m " + "7" * 4999 + "8)",
                    ("1", "2")))

    def test_the_first_pattern_that_fits(self):
        macro = "(macro m () ((m) 0) ((m x) 1) ((m x y) 2) ((m x ...) 9) ((m 5 6 7) 3)) "
        self.check((macro + "(m) (m a) (m a b) (m 5 6 7)", ("0", "1", "2", "9")))

    def test_lists_fit_datum_by_datum(self):
        macro = "(macro m () ((m (a (b) c)) '(c b a)) ((m x) 'no)) "
        self.check((macro + "(m (1 (2) 3)) (m (1 2 3)) (m (1 (2))) (m (1 (2) 3 4)) (m (1 (2) . 3)) (m ())",
                    ("(quote (3 2 1))",) + ("(quote no)",) * 5))

    def test_tails_fit_tails(self):
        macro = "(macro m () ((m (a . b)) '(b / a)) ((m x) 'no)) "
        self.check((macro + "(m (1 . 2)) (m (1)) (m (1 2 3)) (m ()) (m 5)",
                    ("(quote (2 / 1))", "(quote (() / 1))", "(quote ((2 3) / 1))", "(quote no)", "(quote no)")))
        self.check(("(macro m () ((m (a . 5)) 1) ((m (a . yes)) 2) ((m . x) 3)) (m (0 . 5)) (m (0 . yes)) (m (0 . 6))",
                    ("1", "2", "3")))

    def test_a_tail_of_the_whole_pattern(self):
        macro = "(macro m () ((m x . y) '(x y)) ((m . z) 'z)) "
        self.check((macro + "(m 1 2 3) (m 1) (m 1 . 2) (m . 5) (m)",
                    ("(quote (1 (2 3)))", "(quote (1 ()))", "(quote (1 2))", "(quote 5)", "(quote ())")))

    def test_a_use_with_another_tail_fits_no_list(self):
        self.check(("(macro m () ((m x) 1) ((m x . y) 2)) (m 5) (m 5 . 6)", ("1", "2")),
                   ("(macro m () ((m x ...) 1) ((m . y) 2)) (m 5 6) (m 5 . 6) (m . 6)", ("1", "2", "2")))

    def test_dots_fit_as_many_as_are_left(self):
        macro = "(macro m () ((m a b ... c d) '(a (b ...) c d)) ((m x ...) 'few)) "
        self.check((macro + "(m 1 2 3) (m 1 2 3 4) (m 1 2 3 4 5 6) (m 1 2) (m)",
                    ("(quote (1 () 2 3))", "(quote (1 (2) 3 4))", "(quote (1 (2 3 4) 5 6))", "(quote few)", "(quote few)")))

    def test_dots_behind_lists(self):
        macro = "(macro m () ((m (a b ...) ...) '((a ...) ((b ...) ...))) ((m . x) 'no)) "
        self.check((macro + "(m) (m (1)) (m (1 2 3) (4) (5 6)) (m (1 2) ()) (m (1 2) 3) (m (1 2 . 3))",
                    ("(quote (() ()))", "(quote ((1) (())))", "(quote ((1 4 5) ((2 3) () (6))))",
                     "(quote no)", "(quote no)", "(quote no)")))

    def test_dots_in_lists_within_lists(self):
        macro = "(macro m () ((m ((a ...) ...) c) '(((c a) ...) ...))) "
        self.check((macro + "(m ((1 2) () (3)) 9)", "(quote (((9 1) (9 2)) () ((9 3))))"))

    def test_dots_behind_what_is_no_name(self):
        macro = "(macro m () ((m 5 ...) 1) ((m () ...) 2) ((m (a . 5) ... 6) '(a ...)) ((m . x) 'no)) "
        self.check((macro + "(m) (m 5 5) (m () ()) (m (1 . 5) (2 . 5) 6) (m 5 ()) (m (1 . 6) 6)",
                    ("1", "1", "2", "(quote (1 2))", "(quote no)", "(quote no)")))

    def test_a_dotted_name_fits_dots_too(self):
        self.check(("(macro m () ((m a ...) '(x a ...))) (m ... 1 ...)", "(quote (x ... 1 ...))"))


class Literals(Expanded):

    LEST = "(macro lest (else) ((lest c else e) (if c none e)) ((lest . x) 'unfit)) "

    def test_they_fit_the_name_spelled_so(self):
        self.check((self.LEST + "(lest 1 else 2) (lest 1 2 3) (lest 1 elsa 2) (lest 1 'else 2) (lest 1 5 2) (lest 1 yes 2)",
                    ("(if 1 none 2)",) + ("(quote unfit)",) * 5))

    def test_they_do_not_fit_a_name_that_is_bound_where_the_use_stands(self):
        self.check((self.LEST + "(fn (else) (lest 1 else 2))", "(fn (~1) (quote unfit))"),
                   (self.LEST + "(fn else (fn (a) (lest 1 else 2)))", "(fn ~1 (fn (~2) (quote unfit)))"),
                   (self.LEST + "(fn (a) (lest 1 else 2)) (fn (else) 1)", ("(fn (~1) (if 1 none 2))", "(fn (~2) 1)")))

    def test_a_global_or_macro_of_the_name_does_not_matter(self):
        self.check((self.LEST + "(def else 5) (lest 1 else 2)", ("(def else 5)", "(if 1 none 2)")),
                   (self.LEST + "(macro else () ((else) 1)) (lest 1 else 2) (else)", ("(if 1 none 2)", "1")))

    def test_a_name_that_another_use_brings_in_fits(self):
        self.check((self.LEST + "(macro unless () ((unless c e) (lest c else e))) (unless 1 2) (fn (else) (unless 1 else))",
                    ("(if 1 none 2)", "(fn (~1) (if 1 none ~1))")))

    def test_a_name_that_another_use_brings_in_and_binds_does_not_fit(self):
        self.check((self.LEST + "(macro bind () ((bind c e) (fn (else) (lest c else e)))) (bind 1 2)",
                    "(fn (~1) (quote unfit))"),
                   (self.LEST + "(macro bind () ((bind e) (fn (else) e))) (bind (lest 1 else 2))",
                    "(fn (~1) (if 1 none 2))"))

    def test_core_words_macros_and_the_macros_own_name_can_be_literals(self):
        self.check(("(macro m (if or m) ((m if) 1) ((m or) 2) ((m m) 3) ((m x) 4)) (m if) (m or) (m m) (m fn)",
                    ("1", "2", "3", "4")))

    def test_literals_can_stand_more_than_once_and_with_dots(self):
        self.check(("(macro m (a b) ((m a a) 1) ((m b ... c) 'c) ((m . x) 'no)) (m a a) (m b b 5) (m b b b) (m 5) (m 6 5) (m b a 5)",
                    ("1", "(quote 5)", "(quote b)", "(quote 5)", "(quote no)", "(quote no)")))

    def test_literals_can_stand_as_tails(self):
        self.check(("(macro m (a) ((m . a) 1) ((m x . a) 2) ((m . x) 3)) (m . a) (m 5 . a) (m . b) (fn (a) (m . a))",
                    ("1", "2", "3", "(fn (~1) 3)")))

    def test_in_templates_they_are_names_like_others(self):
        self.check(("(macro m (a) ((m a) (fn (a) a))) (m a)", "(fn (~1) ~1)"))


class Templates(Expanded):

    def test_any_datum(self):
        self.check(("(macro m () ((m) 5)) (m)", "5"), ("(macro m () ((m) yes)) (m)", "yes"),
                   ("(macro m () ((m) x)) (m)", "x"), ("(macro m () ((m x) x)) (m (f 1))", "(f 1)"),
                   ("(macro m () ((m x) '(x . x))) (m 1)", "(quote (1 . 1))"),
                   ("(macro m () ((m x) '(0 . x))) (m (1 2))", "(quote (0 1 2))"))

    def test_a_name_stands_as_often_as_it_is_told(self):
        self.check(("(macro m () ((m x y) (f x x y x))) (m (g) 2)", "(f (g) (g) 2 (g))"),
                   ("(macro m () ((m x y) 1)) (m (if . 5) ())", "1"))

    def test_several_data_with_dots_in_one_list(self):
        self.check(("(macro m () ((m (a b) ...) '(a ... / b ... a ...))) (m (1 2) (3 4)) (m)",
                    ("(quote (1 3 / 2 4 1 3))", "(quote (/))")))

    def test_dots_ahead_of_a_tail(self):
        self.check(("(macro m () ((m x ...) '(x ... . 5))) (m 1 2) (m)", ("(quote (1 2 . 5))", "(quote 5)")),
                   ("(macro m () ((m y x ...) '(x ... . y))) (m (3 4) 1 2) (m (3 4)) (m () 1)",
                    ("(quote (1 2 3 4))", "(quote (3 4))", "(quote (1))")))

    def test_names_with_fewer_dots_stand_in_each_copy(self):
        self.check(("(macro m () ((m a b ...) '((a b) ...))) (m 1 2 3) (m 1)", ("(quote ((1 2) (1 3)))", "(quote ())")))

    def test_of_more_dots_in_the_template_the_outermost_are_taken_first(self):
        self.check(("(macro m () ((m (a b ...) ...) '((a b ...) ...))) (m (1 2 3) (4))", "(quote ((1 2 3) (4)))"),
                   ("(macro m () ((m (a ...) (b ...) ...) '(((a b) ...) ...))) (m (1 2) (3 4 5) (6))",
                    "(quote (((1 3) (1 4) (1 5)) ((2 6))))"),
                   ("(macro m () ((m a (b ...) ...) '(((a b) ...) ...))) (m 0 (3 4) () (6))",
                    "(quote (((0 3) (0 4)) () ((0 6))))"))

    def test_names_side_by_side_go_together(self):
        self.check(("(macro m () ((m (a ...) (b ...)) '((a b) ...))) (m (1 2) (3 4)) (m () ())",
                    ("(quote ((1 3) (2 4)))", "(quote ())")))

    def test_names_that_a_use_brings_in_are_one_for_all_copies(self):
        self.check(("(macro m () ((m x ...) (fn (t) (f t x) ...))) (m 1 2)", "(fn (~1) (f ~1 1) (f ~1 2))"))


class Expanding(Expanded):

    def test_what_a_use_writes_is_gone_through_anew(self):
        self.check(("(macro a () ((a x) (b x x))) (macro b () ((b x y) (f x y))) (a 1)", "(f 1 1)"),
                   ("(macro rev () ((rev () (y ...)) '(y ...)) ((rev (x z ...) (y ...)) (rev (z ...) (x y ...)))) "
                    "(rev (1 2 3) ())", "(quote (3 2 1))"))

    def test_from_the_outside_in(self):
        self.check(("(macro q () ((q x) 'x)) (q (or)) (f (q (q 1)))", ("(quote (or))", "(f (quote (q 1)))")),
                   ("(macro flip () ((flip (f x)) (x f))) (flip (1 or))", "1"))

    def test_uses_stand_wherever_an_expression_does(self):
        macro = "(macro m () ((m) 1)) "
        self.check((macro + "(m) ((m) (m)) (if (m) (m) (m)) (do (m)) (set x (m)) (def y (m)) (fn (z) (m) (m))",
                    ("1", "(1 1)", "(if 1 1 1)", "(do 1)", "(set x 1)", "(def y 1)", "(fn (~1) 1 1)")))

    def test_no_uses_stand_in_quotes_and_among_parameters(self):
        self.check(("(macro m () ((m) 1)) '(m) '(a . (m)) (fn (m a) m) (fn m (m))",
                    ("(quote (m))", "(quote (a m))", "(fn (~1 ~2) ~1)", "(fn ~3 (~3))")))

    def test_a_name_of_a_macro_that_is_bound_is_no_macro(self):
        self.check(("(macro m () ((m) 1)) (fn (m) (m)) (m)", ("(fn (~1) (~1))", "1")))

    def test_macros_are_there_for_the_forms_behind_alone(self):
        self.check(("(m) (macro m () ((m) 1)) (m)", ("(m)", "1")),
                   ("(f m) (def g (fn () (m))) (macro m () ((m) 1)) (m)", ("(f m)", "(def g (fn () (m)))", "1")))

    def test_a_template_means_what_its_names_mean_when_it_is_used(self):
        self.check(("(macro a () ((a) (b))) (a) (macro b () ((b) 1)) (a)", ("(b)", "1")))

    def test_def_can_come_of_a_use(self):
        self.check(("(macro m () ((m x) (def x (fn (y) y))) ((m) (def here 5))) (m a) (m)",
                    ("(def a (fn (~1) ~1))", "(def here 5)")),
                   ("(macro m () ((m x) (n x))) (macro n () ((n x) (def x 1))) (m a)", "(def a 1)"))

    def test_bound_names_are_numbered_as_they_come_out(self):
        self.check(("(or a (fn (x) x)) (let ((x (fn (y) y))) (or x 1))",
                    ("((fn (~1) (if ~1 ~1 (fn (~2) ~2))) a)",
                     "((fn (~3) ((fn (~4) (if ~4 ~4 1)) ~3)) (fn (~5) ~5))")))


class NoCapture(Expanded):
    """Section 3, (a), and whose a name is."""

    def test_names_that_a_template_binds_bind_none_of_the_users(self):
        self.check(("(fn (t) (or t 1))", "(fn (~1) ((fn (~2) (if ~2 ~2 1)) ~1))"),
                   ("(fn (t) (or 1 t))", "(fn (~1) ((fn (~2) (if ~2 ~2 ~1)) 1))"),
                   ("(or 1 t)", "((fn (~1) (if ~1 ~1 t)) 1)"),
                   ("(while (go) go)", "((fn (~1) (set ~1 (fn () (if (go) (do go (~1)) none))) (~1)) none)"))

    def test_each_use_brings_in_names_of_its_own(self):
        self.check(("(or a (or b t))", "((fn (~1) (if ~1 ~1 ((fn (~2) (if ~2 ~2 t)) b))) a)"),
                   ("(macro two () ((two x y) (fn (t) (fn (x) (t x y))))) (fn (t) (two t t))",
                    "(fn (~1) (fn (~2) (fn (~3) (~2 ~3 ~3))))"),
                   ("(macro bind () ((bind x e) (fn (x) e))) (macro both () ((both e) (bind v (bind e v)))) (both v)",
                    "(fn (~1) (fn (~2) ~1))"))

    def test_names_of_a_template_are_bound_by_none_of_the_users(self):
        self.check(("(fn (if) (or if 1))", "(fn (~1) ((fn (~2) (if ~2 ~2 1)) ~1))"),
                   ("(fn (if fn) (or if fn))", "(fn (~1 ~2) ((fn (~3) (if ~3 ~3 ~2)) ~1))"),
                   ("(macro m () ((m x) (add x one))) (fn (add one) (m add) one)", "(fn (~1 ~2) (add ~1 one) ~2)"),
                   ("(fn (let set do quote) (letrec ((a let)) (when set do)))",
                    "(fn (~1 ~2 ~3 ~4) ((fn (~5) (set ~5 ~1) (if ~2 (do ~3) none)) (quote a)))"))

    def test_a_user_binds_its_own_through_a_macro(self):
        self.check(("(macro my () ((my x e b) ((fn (x) b) e))) (my t 1 (my u t (f t u)))",
                    "((fn (~1) ((fn (~2) (f ~1 ~2)) ~1)) 1)"))

    def test_one_spelled_alike_of_the_text_and_of_a_use_are_two(self):
        self.check(("(macro m () ((m x) (fn (x t) (x t)))) (m t)", "(fn (~1 ~2) (~1 ~2))"))

    def test_quoted_names_stand_as_they_are_spelled(self):
        self.check(("(macro m () ((m x) (fn (t x) 't 'x '(t . x)))) (fn (t) (m t))",
                    "(fn (~1) (fn (~2 ~3) (quote t) (quote t) (quote (t . t))))"),
                   ("(letrec ((x 1)) x)", "((fn (~1) (set ~1 1) ~1) (quote x))"))

    def test_texts_alike_but_for_bound_names_come_out_the_same(self):
        text = ("(macro swap () ((swap a b) ((fn (t) (set a b) (set b t)) a))) "
                "(def g (fn (A B) (fn C (swap A B) (or A (and B C) (cond (A B) (else C)) (while B (swap B A))))))"
                "(let ((A 1) (B 2)) (loop C ((A B) (B A)) (when A (C B A)) (swap C B)))")
        spellings = ("x", "t", "if", "set", "do", "f", "go", "e", "add", "quote", "macro", "...", "c")
        told = expanded(text.replace("A", "k1").replace("B", "k2").replace("C", "k3"))
        for a, b, c in itertools.permutations(spellings, 3):
            self.assertEqual(expanded(text.replace("A", a).replace("B", b).replace("C", c)), told, (a, b, c))


class WrongTexts(Expanded):

    def test_bad_text_as_read_tells_it(self):
        for text in ("(f", ")", "(or) B", "(macro m", "01", "(" * 41) + any_values():
            if refused(read, text) is not None:
                self.assertEqual(refused(expanded, text), refused(read, text), text)
        for value in any_values():
            if not isinstance(value, str):
                self.assertEqual(refused(expanded, value), (BadText, (0, 0)))

    def test_bad_text_ahead_of_all_else(self):
        self.assertEqual(refused(expanded, "() (if)\n (f"), (BadText, (2, 4)))
        self.assertEqual(refused(expanded, "(macro on () ((on) (on))) (on) B"), (BadText, (1, 32)))


if __name__ == "__main__":
    unittest.main()
