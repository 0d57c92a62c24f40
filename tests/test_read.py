"""Section 4: what texts are read to."""

import random
import unittest

from keptagain.errors import BadText
from keptagain.printing import datum_text
from keptagain.reading import all_data, printed, read
from keptagain.words import bare_words, words_in

NAME_SIGNS = "abcdefghijklmnopqrstuvwxyz0123456789-?!*<=>+/."


class Words(unittest.TestCase):

    def test_integers_stand_as_they_are(self):
        for word in ("0", "1", "7", "10", "100", "-1", "-12", "-10", "2147483648", "-9223372036854775809"):
            with self.subTest(word):
                self.assertEqual(read(word), (word,))

    def test_long_integers_lose_no_figure(self):
        for many in (17, 18, 63, 64, 65, 127, 128, 129, 192, 193, 640, 641, 1999, 2000):
            for word in ("1" + "0" * (many - 1), "9" * many, ("1234567890" * many)[:many], "5" + "0" * (many - 2) + "7"):
                with self.subTest(word):
                    self.assertEqual(read(word), (word,))
                    if many < 2000:
                        self.assertEqual(read("-" + word), ("-" + word,))

    def test_names_stand_as_they_are(self):
        names = ("a", "z", "x1", "def", "+", "...", "..", "....", "1+", "a.b", "a-b", "-a", "1a", "has?", "set!", "*",
                 "<=", "=>", "/", "-.", "-?", "5-a", ".5", "a.", ".a", "1.5", "-1.5", "1/2", "0x", "+1", "--+", "?", "!")
        for name in names:
            with self.subTest(name):
                self.assertEqual(read(name), (name,))

    def test_each_sign_of_names_can_stand_in_one(self):
        for sign in NAME_SIGNS:
            with self.subTest(sign):
                self.assertEqual(read("a" + sign + " " + sign + "a"), ("a" + sign, sign + "a"))

    def test_the_data_that_have_names(self):
        self.assertEqual(read("yes no none (yes no none) 'none"), ("yes", "no", "none", "(yes no none)", "(quote none)"))
        self.assertEqual(read("yes1 nones noo"), ("yes1", "nones", "noo"))

    def test_names_of_16_signs(self):
        for name in ("a" * 16, "." * 16, "1" * 15 + "a", "-" * 15 + "+", "abcdefghijklmnop"):
            with self.subTest(name):
                self.assertEqual(read(name), (name,))
                self.assertEqual(printed("(" + name + ")"), "(" + name + ")")

    def test_words_are_as_long_as_they_can_be(self):
        self.assertEqual(read("ab cd"), ("ab", "cd"))
        self.assertEqual(read("1-a 1 -a"), ("1-a", "1", "-a"))

    def test_brackets_and_quotes_part_words(self):
        self.assertEqual(read("a(b)c'd'(e)f"), ("a", "(b)", "c", "(quote d)", "(quote (e))", "f"))
        self.assertEqual(read("1'2(3)4"), ("1", "(quote 2)", "(3)", "4"))


class Blanks(unittest.TestCase):

    def test_texts_without_data(self):
        for text in ("", " ", "\n", "   \n \n", ";", "; a", ";\n", "; a b (\n ;)\n", ";;;", "\n;"):
            with self.subTest(text):
                self.assertEqual(read(text), ())

    def test_blanks_and_line_feeds_part_words_and_are_nothing_else(self):
        self.assertEqual(read("  a\n\n b \n(  1\n2 )  "), ("a", "b", "(1 2)"))
        self.assertEqual(read("' a '\n(b) (c .\nd)"), ("(quote a)", "(quote (b))", "(c . d)"))
        self.assertEqual(read("( ) (\n)"), ("()", "()"))

    def test_a_note_goes_to_the_end_of_its_line(self):
        self.assertEqual(read("a ; b\nc"), ("a", "c"))
        self.assertEqual(read("(a ; b)\nc)"), ("(a c)",))
        self.assertEqual(read("a;b;c\nd"), ("a", "d"))
        self.assertEqual(read("'; a\nb"), ("(quote b)",))

    def test_a_note_parts_words_as_its_line_feed_does(self):
        self.assertEqual(read("ab;\ncd"), ("ab", "cd"))

    def test_a_note_at_the_end_without_a_line_feed(self):
        self.assertEqual(read("a;"), ("a",))
        self.assertEqual(read("(a); (b"), ("(a)",))
        self.assertEqual(read("a ; the end"), ("a",))

    def test_any_sign_stands_in_a_note(self):
        every = "".join(chr(code) for code in range(32, 127))
        self.assertEqual(read("a;" + every + "\nb"), ("a", "b"))
        self.assertEqual(read(";" + every), ())


class Lists(unittest.TestCase):

    def test_lists(self):
        self.assertEqual(read("() (a) (a b) ((a) () (b (c)))"), ("()", "(a)", "(a b)", "((a) () (b (c)))"))

    def test_quotes(self):
        self.assertEqual(read("'a '5 'yes '() '(a 'b)"),
                         ("(quote a)", "(quote 5)", "(quote yes)", "(quote ())", "(quote (a (quote b)))"))
        self.assertEqual(read("''a '''()"), ("(quote (quote a))", "(quote (quote (quote ())))"))
        self.assertEqual(read("('a 'b) 'c d"), ("((quote a) (quote b))", "(quote c)", "d"))

    def test_quote_written_out_is_a_list_like_others(self):
        self.assertEqual(read("(quote a) (quote) (quote a b)"), ("(quote a)", "(quote)", "(quote a b)"))

    def test_tails(self):
        self.assertEqual(read("(a . b) (a b . c) (1 . 2) (a . none)"), ("(a . b)", "(a b . c)", "(1 . 2)", "(a . none)"))
        self.assertEqual(read("((a . b) . (c . d))"), ("((a . b) c . d)",))

    def test_a_tail_that_is_a_list_makes_one_list(self):
        self.assertEqual(read("(1 . (2 3)) (a . ()) (a . (b . (c . ())))"), ("(1 2 3)", "(a)", "(a b c)"))
        self.assertEqual(read("(a . (b . c)) (() . ())"), ("(a b . c)", "(())"))

    def test_a_tail_that_is_a_quote(self):
        self.assertEqual(read("(a . 'b) (a . ''b)"), ("(a quote b)", "(a quote (quote b))"))
        self.assertEqual(read("'(a . 'b)"), ("(quote (a quote b))",))

    def test_a_dot_needs_no_blanks_beside_what_is_no_word(self):
        self.assertEqual(read("((a).(b)) ('a . b) (a .'b)"), ("((a) b)", "((quote a) . b)", "(a quote b)"))
        self.assertEqual(read("(a .b) (a. b)"), ("(a .b)", "(a. b)"))

    def test_more_data_stand_behind_one_another(self):
        self.assertEqual(read("a(b)'c 1 yes"), ("a", "(b)", "(quote c)", "1", "yes"))


class Open(unittest.TestCase):

    def test_40_of_each_are_let(self):
        self.assertEqual(read("(" * 40 + ")" * 40), ("(" * 40 + ")" * 40,))
        self.assertEqual(read("'" * 40 + "a"), ("(quote " * 40 + "a" + ")" * 40,))
        self.assertEqual(read("'(" * 20 + ")" * 20), ("(quote (" * 19 + "(quote ()" + "))" * 19 + ")",))

    def test_the_41st_cannot_stand(self):
        for text in ("(" * 41, "'" * 41 + "a", "'(" * 20 + "(", "'(" * 20 + "'a", "(" * 41 + ")" * 41):
            with self.subTest(text):
                with self.assertRaises(BadText) as caught:
                    read(text)
                self.assertEqual(caught.exception.value, (1, 41))

    def test_a_quote_is_open_no_longer_than_its_datum(self):
        quotes = "(" * 39 + "(quote a) (quote 5) (quote no)" + ")" * 39
        self.assertEqual(read("(" * 39 + "'a '5 'no" + ")" * 39), (quotes,))
        self.assertEqual(read("'a " * 50), ("(quote a)",) * 50)

    def test_a_list_is_open_no_longer_than_its_bracket(self):
        self.assertEqual(read("(" * 39 + "() (a) (b . c)" + ")" * 39), ("(" * 39 + "() (a) (b . c)" + ")" * 39,))
        self.assertEqual(read("()" * 50), ("()",) * 50)

    def test_what_is_closed_can_be_opened_again_and_no_more(self):
        with self.assertRaises(BadText) as caught:
            read("(" * 39 + "'a '()" + ")" * 39)
        self.assertEqual(caught.exception.value, (1, 44))
        with self.assertRaises(BadText) as caught:
            read("(" * 39 + "()\n(())" + ")" * 39)
        self.assertEqual(caught.exception.value, (2, 2))

    def test_a_tail_is_open_within_its_list(self):
        self.assertEqual(read("(a . " * 40 + "b" + ")" * 40), ("(" + "a " * 40 + ". b)",))
        with self.assertRaises(BadText) as caught:
            read("(a . " * 41 + "b" + ")" * 41)
        self.assertEqual(caught.exception.value, (1, 201))


class AnyLength(unittest.TestCase):

    def test_many_data(self):
        self.assertEqual(read("a " * 100000), ("a",) * 100000)

    def test_many_lines(self):
        self.assertEqual(read("; note\n(a\n. b)\n" * 20000), ("(a . b)",) * 20000)

    def test_lists_that_are_too_long_to_print(self):
        self.assertEqual(read("(" + "a " * 200000 + ")"), ("#long",))
        self.assertEqual(read("(" + "a " * 200000 + ". b) c"), ("#long", "c"))

    def test_integers_that_python_itself_does_not_write(self):
        for many in (2001, 4300, 4301, 5000, 100000):
            with self.subTest(many):
                self.assertEqual(read("7" * many), ("#long",))
                self.assertEqual(read("a (b -" + "7" * many + ") c"), ("a", "#long", "c"))


class ReadAgain(unittest.TestCase):

    TEXTS = (
        "(def x '(1 . (2 3)))  ; a list\n-7 (a . b) () 'yes",
        "(a . 'b) ''c ('(d . e) . f) (quote . a) (quote a b) (quote)",
        "(yes no none () 0 -1 a.b ... 1+ -a 5-a)",
        "'(a 'b . ('c . d)) '() (() . a) (() . ()) ((()))",
        "(" * 40 + ")" * 40 + " " + "'" * 40 + "a",
        "9" * 2000 + " (" + "ab " * 600 + ". c)",
    )

    def test_what_is_printed_in_full_is_read_to_the_same_again(self):
        for text in self.TEXTS:
            for datum in read(text):
                with self.subTest(datum):
                    self.assertNotEqual(datum, "#long")
                    self.assertEqual(read(datum), (datum,))
                    self.assertEqual(printed(datum), datum)

    def test_equal_calls_return_equal_results(self):
        for text in self.TEXTS:
            self.assertEqual(read(text), read(text))
            self.assertIsInstance(read(text), tuple)


class WithPlacesAndWithout(unittest.TestCase):
    """Words are looked up without their places at first, and with them where a text cannot be read: both tell the same."""

    def test_texts_made_at_random(self):
        chance = random.Random(8)
        refusals = 0
        for lap in range(4000):
            signs = "(( )) \n\n'.a0-;b9" + ("A\t~" if lap % 3 == 0 else "")
            text = "".join(chance.choice(signs) for _ in range(chance.randint(0, 25)))
            words, end = words_in(text)
            try:
                wanted = tuple(datum_text(datum) for datum in all_data(words, end))
            except BadText as error:
                wanted = error.value
                refusals += 1
            try:
                told = read(text)
            except BadText as error:
                told = error.value
            self.assertEqual(told, wanted, text)
        self.assertTrue(1000 < refusals < 3500)

    def test_the_same_words(self):
        for text in ("(a . b)", "; (a\n'b;c\n;d", "((a)b(c))d", "a'b''c", "", "\n;\n", "a.b ... .a 5-5"):
            self.assertEqual(bare_words(text), [word for word, _ in words_in(text)[0]])


if __name__ == "__main__":
    unittest.main()
