"""Section 4: the places that BadText tells."""

import itertools
import unittest

from keptagain.errors import BadText, KeptError
from keptagain.reading import printed, read


def place(look, text):
    """The place that look tells of text; None if it takes the text."""
    try:
        look(text)
    except BadText as error:
        return error.value
    return None


class Places(unittest.TestCase):

    def check(self, look, *cases):
        for text, told in cases:
            with self.subTest(text):
                self.assertEqual(place(look, text), told)

    def check_alone(self, *cases):
        """The same of read and of printed, where the first datum is the one at fault."""
        self.check(read, *cases)
        self.check(printed, *cases)


class WrongWords(Places):

    def test_words_that_are_neither_integers_nor_names(self):
        for word in ("01", "00", "007", "-0", "-01", "-", "--", "5-", "1-2", "-5-", "--1", "0-", "-1-1", "1--"):
            self.check_alone((word, (1, 1)), ("(a " + word + ")", (1, 4)), ("'" + word, (1, 2)), ("\n " + word, (2, 2)))

    def test_names_of_17_signs(self):
        for word in ("a" * 17, "." * 17, "1" * 16 + "a", "-" * 16 + "a", "a" * 5000, "1" * 5000 + "+"):
            self.check_alone((word, (1, 1)), ("(" + word + ")", (1, 2)), ("(a\n. " + word + ")", (2, 3)))

    def test_a_word_that_cannot_stand_counts_as_its_first_sign(self):
        self.check(read, ("x 01", (1, 3)), ("x 01a", None), ("a 5- b", (1, 3)), ("a\n  5-5-5", (2, 3)))

    def test_signs_that_no_word_has(self):
        for sign in "ABZ\"#$&,:@[\\]^_`{|}~%":
            self.check_alone((sign, (1, 1)), (" " + sign, (1, 2)), ("(a " + sign, (1, 4)), ("'" + sign, (1, 2)),
                             ("(a\n(b . " + sign, (2, 6)), ("(a . b" + sign, (1, 7)))

    def test_such_a_sign_ends_a_word(self):
        self.check(read, ("aB", (1, 2)), ("a B", (1, 3)), ("abc_d", (1, 4)), ("12#", (1, 3)), ("a\nbC", (2, 2)))
        self.check(read, ("01B", (1, 1)), ("B01", (1, 1)), ("a" * 16 + "B", (1, 17)), ("a" * 17 + "B", (1, 1)))


class WrongPlaces(Places):

    def test_a_bracket_that_closes_nothing(self):
        self.check(read, (")", (1, 1)), ("a)", (1, 2)), ("()\n )", (2, 2)), ("(a))", (1, 4)), ("; (\n)", (2, 1)))

    def test_a_bracket_behind_a_quote(self):
        self.check_alone(("(')", (1, 3)), ("')", (1, 2)), ("(a ')", (1, 5)), ("(a . ')", (1, 7)), ("(''\n)", (2, 1)))

    def test_a_dot_outside_of_lists(self):
        self.check_alone((".", (1, 1)), ("\n.", (2, 1)), ("'.", (1, 2)), ("'. a", (1, 2)))
        self.check(read, ("a . b", (1, 3)), ("() . ()", (1, 4)))

    def test_a_dot_ahead_of_all_data_of_a_list(self):
        self.check_alone(("(. a)", (1, 2)), ("(.", (1, 2)), ("( . )", (1, 3)), ("(a (. b))", (1, 5)), ("(\n.\n)", (2, 1)))

    def test_a_dot_behind_a_quote(self):
        self.check_alone(("(a '. b)", (1, 5)), ("(a . '.", (1, 7)), ("('. a)", (1, 3)))

    def test_a_second_dot(self):
        self.check_alone(("(a . . b)", (1, 6)), ("(a . b . c)", (1, 8)), ("(a .\n. b)", (2, 1)), ("(a . (b) . c)", (1, 10)))

    def test_a_dot_ahead_of_a_bracket_that_closes(self):
        self.check_alone(("(a . )", (1, 6)), ("(a .)", (1, 5)), ("(a\n.\n)", (3, 1)), ("((a . ) b)", (1, 7)))

    def test_more_than_one_datum_behind_a_dot(self):
        self.check_alone(("(a . b c)", (1, 8)), ("(a . b (", (1, 8)), ("(a . b 'c)", (1, 8)), ("(a . b 1)", (1, 8)),
                         ("(a . (b) c)", (1, 10)), ("(a . 'b c)", (1, 9)), ("(a . b\n()", (2, 1)), ("(a . b 01)", (1, 8)))

    def test_41_open_at_once(self):
        self.check_alone(("(" * 41 + ")" * 41, (1, 41)), ("'" * 41 + "a", (1, 41)), ("(a\n" * 40 + "(", (41, 1)),
                         ("(a\n" * 40 + " 'a", (41, 2)), ("(a " * 40 + "b . c)" + ")" * 39, None))

    def test_the_first_one_is_told(self):
        self.check_alone((") B", (1, 1)), ("B )", (1, 1)), ("(. B", (1, 2)), ("(B .", (1, 2)), ("(a\n. b c\n01", (2, 5)),
                         ("01 (", (1, 1)), ("(01", (1, 2)), ("(5-\n)) B", (1, 2)))
        self.check(read, ("a (b . c) ) B", (1, 11)), ("a B )", (1, 3)))


class TooEarly(Places):

    def test_lists_that_are_not_closed(self):
        self.check_alone(("(", (1, 2)), ("(a", (1, 3)), ("(a ", (1, 4)), ("(a (b)", (1, 7)), ("(a\n", (2, 1)),
                         ("(a\n  b", (2, 4)), ("((", (1, 3)), ("(\n\n\n", (4, 1)))

    def test_quotes_without_a_datum(self):
        self.check_alone(("'", (1, 2)), ("''", (1, 3)), ("'\n", (2, 1)), ("('", (1, 3)), ("' ; a", (1, 6)))
        self.check(read, ("a '", (1, 4)), ("()\n'", (2, 2)))

    def test_dots_without_a_datum(self):
        self.check_alone(("(a .", (1, 5)), ("(a . b", (1, 7)), ("(a . ", (1, 6)), ("(a . (b)\n ", (2, 2)))

    def test_a_note_counts_among_the_signs_of_its_line(self):
        self.check_alone(("(a ; b)", (1, 8)), ("(;", (1, 3)), ("(a\n;;", (2, 3)), ("(a ; b)\n", (2, 1)), ("(;B", (1, 4)))

    def test_as_many_as_can_be_open(self):
        self.check_alone(("(" * 40, (1, 41)), ("'" * 40, (1, 41)), ("(" * 40 + ")" * 39, (1, 80)))

    def test_texts_far_longer(self):
        self.check_alone(("(" + "a\n" * 50000, (50001, 1)), ("(" + "a " * 50000, (1, 100002)))


class Printed(Places):

    def test_one_datum(self):
        for text, told in ((" + ", "+"), ("''a", "(quote (quote a))"), ("( ( none )\n. (x . ()))", "((none) x)"),
                           ("; a\nb ; c", "b"), ("\n\n-12\n\n", "-12"), ("(a);", "(a)"), ("yes", "yes"), ("()", "()")):
            with self.subTest(text):
                self.assertEqual(printed(text), told)

    def test_one_datum_is_what_read_tells(self):
        for text in ("a", "'(a . 'b)", "(1 . (2 3))", "'()", "9" * 2000, "9" * 2001, "(" * 40 + ")" * 40):
            with self.subTest(text):
                self.assertEqual((printed(text),), read(text))

    def test_no_datum(self):
        self.check(printed, ("", (1, 1)), (" ", (1, 2)), ("\n", (2, 1)), ("; a\n", (2, 1)), ("; a", (1, 4)), (";", (1, 2)),
                   ("\n\n  ", (3, 3)))

    def test_a_second_datum(self):
        self.check(printed, ("a b", (1, 3)), ("() ()", (1, 4)), ("()()", (1, 3)), ("a\n 'b", (2, 2)), ("a'b", (1, 2)),
                   ("'a b", (1, 4)), ("1 2 3", (1, 3)), ("a ; b\nc", (2, 1)), ("a(", (1, 2)), ("a '", (1, 3)))

    def test_a_wrong_sign_behind_the_first_one(self):
        self.check(printed, ("a B", (1, 3)), ("aB", (1, 2)), ("a )", (1, 3)), ("(a))", (1, 4)), ("a .", (1, 3)),
                   ("a 01", (1, 3)), ("a\n5-", (2, 1)), ("(a . b) . c", (1, 9)), ("a " + "b" * 17, (1, 3)))

    def test_what_is_wrong_within_the_first_one_comes_first(self):
        self.check(printed, ("(a . b c) d", (1, 8)), ("01 b", (1, 1)), ("(B) c", (1, 2)), ("(a b", (1, 5)))


class NoStrings(Places):

    def test_values_of_every_other_kind(self):
        values = [0, 5, -3, 10 ** 40, True, False, None, (), ("a",), [], ["a"], {}, {"a": "b"}, KeptError("a"),
                  BadText((1, 1)), ([("a",)],), {"a": [None]}]
        for value in values:
            with self.subTest(value):
                self.assertEqual((place(read, value), place(printed, value)), ((0, 0), (0, 0)))

    def test_deeply_nested_values(self):
        value = "a"
        for lap in range(60):
            value = [value] if lap % 2 else (value,)
        self.assertEqual((place(read, value), place(printed, value)), ((0, 0), (0, 0)))

    def test_they_are_not_changed(self):
        value, table = ["a", ["b"]], {"a": ["b"]}
        place(read, value)
        place(printed, value)
        place(read, table)
        place(printed, table)
        self.assertEqual((value, table), (["a", ["b"]], {"a": ["b"]}))

    def test_the_place_is_a_tuple_of_two_integers(self):
        for text in ("(", "B", ")", None, ""):
            told = place(printed, text)
            self.assertIsInstance(told, tuple)
            self.assertEqual([type(number) for number in told], [int, int])

    def test_the_error_is_a_kept_error_and_a_value_error(self):
        for above in (BadText, KeptError, ValueError):
            for look in (read, printed):
                with self.assertRaises(above):
                    look(")")


def offset(text, told):
    """How many signs stand ahead of a place."""
    line, column = told
    return sum(len(part) + 1 for part in text.split("\n")[:line - 1]) + column - 1


class AllShortTexts(unittest.TestCase):
    """What holds of every text, tried on all short ones of these signs."""

    SIGNS = "()'. a0-;\nB"

    def texts(self):
        for many in range(5):
            for signs in itertools.product(self.SIGNS, repeat=many):
                yield "".join(signs)

    def test_read_again_or_refused_just_where_it_first_goes_wrong(self):
        for text in self.texts():
            told = place(read, text)
            if told is None:
                for datum in read(text):
                    self.assertEqual(read(datum), (datum,), text)
                continue
            at = offset(text, told)
            self.assertLessEqual(at, len(text), text)
            ahead = text[:at]
            self.assertIn(place(read, ahead), (None, (ahead.count("\n") + 1, len(ahead.split("\n")[-1]) + 1)), text)

    def test_printed_takes_just_the_texts_of_one_datum(self):
        for text in self.texts():
            told = place(read, text)
            if told is None and len(read(text)) == 1:
                self.assertEqual(printed(text), read(text)[0], text)
            else:
                self.assertIsNotNone(place(printed, text), text)


if __name__ == "__main__":
    unittest.main()
