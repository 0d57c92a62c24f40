"""Section 5: the forms at which expanding cannot go on, and what is too long."""

import unittest

from keptagain.errors import BadForm, TooLong
from keptagain.macros import expanded

from runs import refused

SWAP = "(macro swap () ((swap a b) ((fn (t) (set a b) (set b t)) a))) "
ON = "(macro on () ((on x) (on x))) "
# Each use of it writes ten lists round about what it is handed.
TEN = "(macro ten () ((ten x) ((((((((((x)))))))))))) "


def within(lists, inner):
    """A datum of calls, so many lists round about inner; at most 39 of them stand in the text itself."""
    tens, ones = divmod(lists, 10)
    return "(ten " * tens + "(" * ones + inner + ")" * ones + ")" * tens


class Refused(unittest.TestCase):

    def check_bad(self, *cases):
        for number, text in cases:
            with self.subTest(text):
                self.assertEqual(refused(expanded, text), (BadForm, number))

    def check_long(self, *cases):
        for number, text in cases:
            with self.subTest(text[:200]):
                self.assertEqual(refused(expanded, text), (TooLong, number))

    def check_well(self, *texts):
        for text in texts:
            with self.subTest(text[:200]):
                self.assertIsNone(refused(expanded, text))


class MacroForms(Refused):

    def test_what_they_have_to_have(self):
        self.check_bad((1, "(macro)"), (1, "(macro m)"), (1, "(macro m ())"), (2, "1 (macro m)"),
                       (1, "(macro m () ((m) 1) . 5)"), (1, "(macro . m)"), (1, "(macro m . ())"), (1, "macro"))

    def test_names(self):
        for name in ("5", "yes", "no", "none", "()", "(m)", "'m"):
            self.check_bad((1, "(macro " + name + " () ((" + name + ") 1))"), (1, "(macro " + name + " () ((m) 1))"))

    def test_no_core_words_nor_dots(self):
        for name in ("quote", "fn", "if", "set", "do", "def", "macro", "..."):
            self.check_bad((1, "(macro " + name + " () ((" + name + ") 1))"))

    def test_literals(self):
        for literals in ("5", "else", "(5)", "(yes)", "(a no)", "(none)", "(())", "((a))", "(a a)", "(a b a)", "(...)",
                         "(a ...)", "(a . b)", "none"):
            self.check_bad((1, "(macro m " + literals + " ((m) 1))"))
        self.check_well("(macro m (a b m if ..) ((m) 1))")

    def test_rules(self):
        for rule in ("5", "m", "()", "((m))", "((m) 1 2)", "((m) . 1)", "((m) 1 . 2)", "(m 1)", "(() 1)", "(5 1)",
                     "((5) 1)", "((n) 1)", "(((m)) 1)", "((yes m) 1)", "((x m) 1)"):
            self.check_bad((1, "(macro m () " + rule + ")"), (2, "0 (macro m () ((m) 1) " + rule + ")"),
                           (1, "(macro m () " + rule + " ((m) 1))"))

    def test_one_that_a_macro_form_ahead_made(self):
        self.check_bad((2, "(macro m () ((m) 1)) (macro m () ((m) 1))"),
                       (3, "(macro m () ((m) 1)) (m) (macro m () ((m) 2)) (m)"),
                       (2, "(macro let () ((let) 1)) (macro let () ((let) 2))"))

    def test_one_that_a_def_ahead_made(self):
        self.check_bad((2, "(def m 1) (macro m () ((m) 1))"), (2, "(def let 1) (macro let () ((let) 1))"),
                       (3, "(macro mk () ((mk x) (def x 1))) (mk m) (macro m () ((m) 1))"),
                       (3, "(macro mk () ((mk) (def here 1))) (mk) (macro here () ((here) 1))"))
        self.check_well("(set m 1) (macro m () ((m) 1))", "(fn (m) m) (macro m () ((m) 1))", "m (macro m () ((m) 1))",
                        "'(def m 1) (macro m () ((m) 1))")

    def test_nowhere_but_in_forms_of_the_text(self):
        self.check_bad((1, "(do (macro m () ((m) 1)))"), (1, "(f (macro m () ((m) 1)))"), (1, "((macro m () ((m) 1)))"),
                       (2, "(macro mk () ((mk x) (macro x () ((x) 1)))) (mk m)"), (1, "(fn () (macro m () ((m) 1)))"),
                       (1, "(def x (macro m () ((m) 1)))"), (1, "(do (macro m (a) ((m) 1)))"), (1, "(f (macro))"),
                       (1, "(f (macro x))"), (2, "(macro mk () ((mk) (macro x))) (mk)"))


class PatternForms(Refused):

    def check_patterns(self, *patterns):
        self.check_bad(*[(1, "(macro m (l) (" + pattern + " 1))") for pattern in patterns])

    def test_a_name_stands_once(self):
        self.check_patterns("(m a a)", "(m a (b a))", "(m a . a)", "(m (a ...) a)", "(m m m)", "(m (a) (a ...))")
        self.check_well("(macro m (l) ((m a b l l (l . l)) 1))")

    def test_dots_behind_one_datum_of_a_list(self):
        self.check_patterns("(m a ... b ...)", "(m a ... ...)", "(m (a ... b ...))", "(m 5 ... 6 ...)", "(m (a ...) ... ...)")
        self.check_well("(macro m () ((m (a ... b) ... (c (d ...) ...)) 1))")

    def test_dots_behind_a_datum(self):
        self.check_patterns("(m ...)", "(m ... a)", "(m (... a))", "(m (...))", "(m . ...)", "(m a . ...)", "(m (a . ...))")

    def test_dots_in_lists_that_end_with_the_empty_list(self):
        self.check_patterns("(m a ... . b)", "(m (a ... . 5))", "(m a ... b . c)", "(m a ... . l)")


class TemplateForms(Refused):

    def check_templates(self, *templates):
        self.check_bad(*[(1, "(macro m (l) ((m a (b ...) ((c ...) ...)) " + template + "))") for template in templates])

    def test_dots_behind_a_datum_of_a_list(self):
        self.check_templates("...", "(...)", "(... b)", "(b ... ...)", "((b ...) ... ...)", "(a . ...)", "(b ... . ...)",
                             "'...", "(f (... ...))", "(f ... b ...)")

    def test_names_have_as_many_dots_as_in_the_pattern(self):
        self.check_templates("b", "(f b)", "(f . b)", "c", "(c ...)", "(f (c) ...)", "(f c)", "((b c) ...)", "(f b b ...)")
        self.check_well("(macro m () ((m a (b ...) ((c ...) ...)) (a (b ...) b ... ((c ...) ...) ((a b c ...) ...))))")

    def test_at_each_dots_there_is_a_name(self):
        self.check_templates("(a ...)", "(5 ...)", "(x ...)", "(() ...)", "(m ...)", "(l ...)", "((a x) ...)",
                             "((b ...) ...)", "((a b ...) ...)", "((c ... (b ...)) ...)", "(((c ...) ...) ...)",
                             "(f (f (a) ...))", "((b (a ...)) ...)")


class Uses(Refused):

    def test_one_that_no_pattern_fits(self):
        self.check_bad((2, SWAP + "(swap a)"), (2, SWAP + "(swap a b c)"), (2, SWAP + "(swap)"), (2, SWAP + "(swap . 5)"),
                       (2, SWAP + "(swap a b . c)"), (3, SWAP + "(swap a b) (f (swap a))"), (1, "(let (x 1) x)"),
                       (1, "(let)"), (1, "(when)"), (1, "(fn () (loop x))"), (1, "(cond 5)"), (1, "(while)"))

    def test_unlike_numbers_of_data(self):
        both = "(macro m () ((m (a ...) (b ...)) '((a b) ...))) "
        self.check_bad((2, both + "(m (1) (2 3))"), (2, both + "(m (1 2) (3))"), (2, both + "(m () (3))"),
                       (2, both + "(m (1 2) ())"), (3, both + "(m (1) (2)) (m (1) ())"))
        deep = "(macro m () ((m (a ...) (b ...) ...) '((a b ...) ...))) "
        self.check_bad((2, deep + "(m (1) (2) (3))"), (2, deep + "(m () (2))"))
        inner = "(macro m () ((m (a (b ...) (c ...)) ...) '((a (b c) ...) ...))) "
        self.check_bad((2, inner + "(m (1 () ()) (2 (3) ()))"))
        self.check_well(both + "(m () ())", deep + "(m (1 2) (3 4) ())", inner + "(m (1 () ()) (2 (3) (4)))")

    def test_what_a_use_writes_is_refused_as_other_forms_are(self):
        macro = "(macro m () ((m x) x)) "
        self.check_bad((2, macro + "(m ())"), (2, macro + "(m if)"), (2, macro + "(m m)"), (2, macro + "(m (f . 5))"),
                       (2, macro + "(m (fn))"), (2, macro + "(f (m (def x 1)))"), (2, macro + "(m (macro a () ((a) 1)))"))


class Expressions(Refused):

    def test_core_words_and_macros_where_they_cannot_stand(self):
        for word in ("quote", "fn", "if", "set", "do", "def", "macro", "let", "or", "cond"):
            self.check_bad((1, word), (1, "(f " + word + ")"), (1, "(f 1 (do " + word + "))"), (1, "(set " + word + " 1)"),
                           (1, "(if " + word + " 1 2)"), (1, "(fn () " + word + ")"), (1, "(def x " + word + ")"))
            self.check_well("(fn (" + word + ") (f " + word + ") (set " + word + " 1))")
        self.check_bad((2, SWAP + "swap"), (2, SWAP + "(f swap)"), (3, SWAP + "1 (set swap 1)"))
        self.check_well("(f swap)", "(set swap 1) swap " + SWAP)

    def test_a_name_that_a_use_brings_in_is_none_that_is_bound(self):
        self.check_bad((2, "(macro m () ((m) (f if))) (fn (if) (m))"), (2, "(macro m () ((m) or)) (fn (or) (m))"))

    def test_lists_that_are_no_expressions(self):
        self.check_bad((1, "()"), (2, "1 ()"), (1, "(f ())"), (1, "(())"), (1, "(fn () ())"), (1, "(set x ())"),
                       (1, "(f . 5)"), (1, "(f 1 . x)"), (1, "(if a b . c)"), (1, "(quote . a)"), (1, "(quote a . b)"),
                       (1, "(fn (x) . x)"), (1, "(fn . x)"), (1, "(do . 1)"), (1, "(set . x)"), (1, "(def x . 1)"),
                       (1, "((f . 5))"), (1, "(5 . 5)"))
        self.check_well("'()", "'(f . 5)", "(f '())")

    def test_def(self):
        self.check_bad((1, "(do (def x 1))"), (1, "(fn () (def x 1))"), (1, "(f (def x 1))"), (1, "(def x (def y 1))"),
                       (1, "((def x 1))"), (1, "(def)"), (1, "(def 5 1)"), (1, "(def (f x) 1)"), (1, "(def yes 1)"),
                       (1, "(def none 1)"), (1, "(def () 1)"), (1, "(def 'x 1)"), (1, "(def if 1)"), (1, "(def def 1)"),
                       (1, "(def macro 1)"), (2, SWAP + "(def swap 1)"), (2, "(macro mk () ((mk x) (def x 1))) (mk let)"),
                       (2, "(macro mk () ((mk x) (f (def x 1)))) (mk y)"))
        self.check_well("(def ... 1)", "(def x 1) (def x 2)", "(def add 1)", "(def swap 1)")

    def test_a_def_ahead_of_its_macro(self):
        self.check_bad((2, "(def swap 1) " + SWAP))

    def test_fn(self):
        self.check_bad((1, "(fn)"), (1, "(fn 5 1)"), (1, "(fn yes 1)"), (1, "(fn none none)"), (1, "(fn (5) 1)"),
                       (1, "(fn (x no) 1)"), (1, "(fn (x x) 1)"), (1, "(fn (x y z y) 1)"), (1, "(fn (x . y) 1)"),
                       (1, "(fn (x (y)) 1)"), (1, "(fn (x ()) 1)"), (1, "(fn ((x)) 1)"), (1, "(fn '5 x)"))
        self.check_bad((2, "(macro m () ((m x) (fn (x x) 1))) (m a)"), (2, "(macro m () ((m) (fn (t t) 1))) (m)"))
        self.check_well("(macro m () ((m x) (fn (x t) 1))) (m t)", "(fn 'x x)")

    def test_set(self):
        self.check_bad((1, "(set)"), (1, "(set 5 1)"), (1, "(set yes 1)"), (1, "(set (x) 1)"), (1, "(set () 1)"),
                       (1, "(set 'x 1)"), (1, "(set if 1)"), (1, "(set let 1)"))

    def test_the_first_form_is_told(self):
        self.check_bad((2, "1 (if . 2) ()"), (3, "1 (macro m () ((m) 1)) (m 1) (macro m)"), (1, "() (macro m)"))


class PreludeAnew(Refused):

    NAMES = ("let", "letrec", "loop", "and", "or", "when", "cond", "while")

    def test_a_macro_of_the_text_takes_the_place(self):
        for name in self.NAMES:
            text = "(macro " + name + " () ((" + name + " x) 'x)) (" + name + " 5)"
            self.assertEqual(expanded(text), ("(quote 5)",))
            self.check_bad((2, text.replace(" 5)", ")")))

    def test_a_def_of_the_text_takes_the_place(self):
        for name in self.NAMES:
            text = "(def " + name + " 5) (" + name + ") " + name
            self.assertEqual(expanded(text), ("(def " + name + " 5)", "(" + name + ")", name))

    def test_they_are_gone_in_the_forms_ahead_as_well(self):
        for name in self.NAMES:
            self.assertEqual(expanded("(" + name + ") (f " + name + ") (def " + name + " 5)"),
                             ("(" + name + ")", "(f " + name + ")", "(def " + name + " 5)"))
            self.assertEqual(expanded("(" + name + ") (macro " + name + " () ((" + name + ") 1)) (" + name + ")"),
                             ("(" + name + ")", "1"))

    def test_the_others_stay(self):
        self.assertEqual(expanded("(def or 5) (when (or) (and))"), ("(def or 5)", "(if (or) (do yes) none)"))

    def test_other_forms_do_not_matter(self):
        for text in ("(fn (or) 1)", "'(def or 1)", "(f '(macro or))"):
            self.assertEqual(expanded(text + " (or)")[1:], ("no",))
        self.check_bad((1, "(set or 5)"), (2, "(macro mk () ((mk x) (def x 1))) (mk or)"))


class HowManyUses(Refused):

    M = "(macro m () ((m) 1)) "
    DOWN = "(macro down () ((down) 0) ((down x y ...) (down y ...))) "

    def test_side_by_side(self):
        self.assertEqual(expanded(self.M + "(do" + " (m)" * 2000 + ")"), ("(do" + " 1" * 2000 + ")",))
        self.check_long((2, self.M + "(do" + " (m)" * 2001 + ")"))

    def test_one_out_of_the_other(self):
        self.assertEqual(expanded(self.DOWN + "(down" + " a" * 1999 + ")"), ("0",))
        self.check_long((2, self.DOWN + "(down" + " a" * 2000 + ")"), (2, ON + "(on 1)"))

    def test_in_each_form_anew(self):
        form = "(do" + " (m)" * 2000 + ") "
        self.check_well(self.M + form * 3)
        self.check_long((4, self.M + form * 2 + "(do (m) " + form + ")"))

    def test_uses_of_all_macros_count_and_quoted_ones_do_not(self):
        self.check_well(self.M + "(do" + " (m) (or) '(m) '(or)" * 1000 + ")")
        self.check_long((2, self.M + "(do" + " (m) (or)" * 1000 + " (and))"))

    def test_they_are_counted_ahead_of_their_patterns(self):
        self.check_long((2, self.M + "(do" + " (m)" * 2000 + " (m 1))"))
        self.check_bad((2, self.M + "(do" + " (m)" * 1999 + " (m 1))"))


class HowManyData(Refused):

    def test_what_comes_out(self):
        self.check_well("'(" + "a " * 19997 + ")", "(f" + " 1" * 19998 + ")", "(f" + " 'a" * 6666 + ")",
                        "'(" + "a " * 19996 + ". b)", "'(" + "() " * 19997 + ")", "'(" + "(a) " * 9998 + "b)",
                        "(fn (" + " ".join("a" + str(at) for at in range(19996)) + ") 5)", "(set x (f" + " 1" * 19995 + "))",
                        "(def x (f" + " 1" * 19995 + "))", "(fn a (f" + " a" * 19995 + "))", "(fn () (f" + " a" * 19995 + "))")
        self.check_long(*[(1, text) for text in (
            "'(" + "a " * 19998 + ")", "(f" + " 1" * 19999 + ")", "(f 1" + " 'a" * 6666 + ")", "'(" + "a " * 19997 + ". b)",
            "'(" + "() " * 19998 + ")", "'(" + "(a) " * 9998 + "b c)",
            "(fn (" + " ".join("a" + str(at) for at in range(19997)) + ") 5)", "(set x (f" + " 1" * 19996 + "))",
            "(def x (f" + " 1" * 19996 + "))", "(fn a (f" + " a" * 19996 + "))", "(fn () (f" + " a" * 19996 + "))")])

    def test_in_each_form_anew(self):
        form = "(f" + " 1" * 19998 + ") "
        self.check_well(form * 3)
        self.check_long((3, form * 2 + "(do " + form + ")"))

    def test_macro_forms_do_not_count(self):
        self.check_well("(macro m () ((m) '(" + "a " * 19990 + ")) ((m x) '(" + "a " * 19990 + "))) (m)")

    def test_what_a_use_writes(self):
        macro = "(macro drop () ((drop . x) 1)) (macro m () ((m x ...) (drop x ... x ...)) ) "
        self.check_well(macro + "(m" + " a" * 9999 + ")", macro + "(m" + " ()" * 9999 + ")", macro + "(m" + " (a)" * 4999 + ")")
        self.check_long((3, macro + "(m" + " a" * 10000 + ")"), (3, macro + "(m" + " ()" * 10000 + ")"),
                        (3, macro + "(m" + " (a)" * 5000 + ")"))
        one = "(macro drop () ((drop . x) 1)) (macro m () ((m x (y ...) . z) (drop (x x) y ... . z))) "
        # Two brackets, drop, x twice, so many y, and what stands in the list z.
        self.check_well(one + "(m a (" + "b " * 9000 + ")" + " c" * 10995 + ")", one + "(m a (" + "b " * 9000 + ")" + " c" * 10994 + " . d)")
        self.check_long((3, one + "(m a (" + "b " * 9000 + ")" + " c" * 10996 + ")"),
                        (3, one + "(m a (" + "b " * 9000 + ")" + " c" * 10995 + " . d)"))

    def test_what_a_use_writes_without_anything_of_its_own(self):
        drop = "(macro drop () ((drop . x) 1)) "
        for macro in ("(macro m () ((m y) y)) ", "(macro m () ((m y x ...) (x ... . y))) "):
            self.check_well(drop + macro + "(m (drop" + " a" * 19998 + "))", drop + macro + "(m (drop" + " a" * 19997 + " . b))")
            self.check_long((3, drop + macro + "(m (drop" + " a" * 19999 + "))"),
                            (3, drop + macro + "(m (drop" + " a" * 19998 + " . b))"))

    def test_what_is_handed_to_a_use_can_be_longer(self):
        self.assertEqual(expanded("(macro m () ((m . x) 1)) (m" + " a" * 50000 + ")"), ("1",))
        self.assertEqual(expanded("(macro m () ((m x y ...) x)) (m 5" + " (a)" * 50000 + ")"), ("5",))

    def test_what_would_be_far_longer(self):
        grow = "(macro grow () ((grow x) (grow (x x)))) "
        squares = "(macro m () ((m (a ...) b) '(((a b) a a) ...))) "
        self.check_long((2, grow + "(grow 1)"), (2, "(macro m () ((m a ...) (m a ... a ...))) (m 1)"),
                        (2, squares + "(m (" + "1 " * 20000 + ") (" + "2 " * 10000 + "))"))


class HowDeep(Refused):

    def test_calls(self):
        self.check_well(TEN + within(60, "a"), TEN + within(59, "(f)"), TEN + within(59, "(1 2 3)"))
        self.check_long((2, TEN + within(61, "a")), (2, TEN + within(60, "(f)")), (3, TEN + "1 " + within(59, "(1 (f) 2)")))

    def test_all_kinds_of_lists_count(self):
        for form in ("'a", "(quote a)", "(fn () 1)", "(fn x x)", "(if 1 2 3)", "(do 1)", "(set x 1)", "(fn ())"):
            self.check_well(TEN + within(59, form))
            self.check_long((2, TEN + within(60, form)))
        for form in ("'(a)", "'(a b . c)", "(fn (x) x)", "(f (g))", "(fn () (f))", "'(() a)"):
            self.check_well(TEN + within(58, form))
            self.check_long((2, TEN + within(59, form)))
        self.check_well(TEN + "(def x " + within(59, "a") + ")")
        self.check_long((2, TEN + "(def x " + within(60, "a") + ")"))

    def test_empty_lists_do_not(self):
        self.check_well(TEN + within(59, "'()"), TEN + within(59, "(fn () 1)"), TEN + within(58, "'(())"))

    def test_tails_are_no_lists_of_their_own(self):
        self.check_well(TEN + within(58, "'(a . (b . (c . d)))"))

    def test_quoted_lists(self):
        self.check_well(TEN + within(50, "'" + "(" * 9 + "a" + ")" * 9), TEN + within(50, "'" + "(" * 9 + "()" + ")" * 9))
        self.check_long((2, TEN + within(50, "'" + "(" * 10 + "a" + ")" * 10)))

    def test_what_a_use_writes_can_be_deeper(self):
        keep = "(macro deep () ((deep 0 x) 5) ((deep 1 x) (deep 0 ((((((((((x)))))))))))) ((deep 2 x) (deep 1 ((((((((((x))))))))))))) "
        self.assertEqual(expanded(keep + "(deep 2 " + "(" * 38 + ")" * 38 + ")"), ("5",))
        self.check_long((2, "(macro d () ((d x) (d ((x))))) (d 1)"))


class ComeToFirst(Refused):

    LONG = "'(" + "a " * 20000 + ")"

    def test_from_left_to_right(self):
        self.check_long((1, "(do " + self.LONG + " ())"), (1, "(f " + self.LONG + " if)"), (2, ON + "(do (on 1) ())"),
                        (1, "(f (g " + self.LONG + ") (let))"), (1, "(set x " + self.LONG + " ())"))
        self.check_bad((1, "(do () " + self.LONG + ")"), (1, "(f if " + self.LONG + ")"), (2, ON + "(do () (on 1))"),
                       (1, "(f (let) (g " + self.LONG + "))"), (1, "(set () " + self.LONG + ")"))

    def test_from_the_outside_in(self):
        self.check_long((2, TEN + within(61, "()")), (2, TEN + within(60, "(f ())")), (2, ON + "(on (f . ()))"))
        self.check_bad((2, TEN + within(60, "()")), (2, TEN + within(59, "(1 if)")))

    def test_of_several_forms_the_first_one(self):
        self.check_long((1, self.LONG + " ()"), (2, ON + "(on 1) (f . 5)"))
        self.check_bad((1, "() " + self.LONG), (2, ON + "(f . 5) (on 1)"))

    def test_a_use_that_writes_too_much_ahead_of_what_comes_of_it(self):
        macro = "(macro m () ((m x ...) (f if x ... x ...))) "
        self.check_long((2, macro + "(m" + " a" * 10000 + ")"))
        self.check_bad((2, macro + "(m" + " a" * 9998 + ")"))


if __name__ == "__main__":
    unittest.main()
