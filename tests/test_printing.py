"""Section 2: data printed, as far as texts tell them, and `#long`."""

import unittest

from keptagain.data import EMPTY, Pair, list_of
from keptagain.printing import datum_text
from keptagain.reading import printed, read
from keptagain.words import is_integer, is_name, number_of


class Long(unittest.TestCase):

    def check(self, full):
        """What full is, of 2000 signs; not what has one more."""
        self.assertEqual(len(full), 2000)
        self.assertEqual((read(full), printed(full)), ((full,), full))

    def test_integers_of_2000_and_2001_signs(self):
        self.check("1" + "0" * 1999)
        self.check("9" * 2000)
        self.check("-" + "9" * 1999)
        self.check("-1" + "0" * 1998)
        for text in ("1" + "0" * 2000, "9" * 2001, "-" + "9" * 2000, "-1" + "0" * 1999):
            self.assertEqual((read(text), printed(text)), (("#long",), "#long"))

    def test_lists_of_2000_and_2001_signs(self):
        self.check("(" + "a " * 998 + "ab)")
        self.check("(" + "a " * 997 + ". ab)")
        self.check("(" * 20 + "a" * 16 + " " + "1" * 1943 + ")" * 20)
        for text in ("(" + "a " * 998 + "abc)", "(" + "a " * 997 + ". abc)", "(" + "a " * 1000 + "b)",
                     "(" * 20 + "a" * 16 + " " + "1" * 1944 + ")" * 20):
            self.assertEqual((read(text), printed(text)), (("#long",), "#long"))

    def test_each_sign_counts_also_brackets_dots_and_blanks(self):
        for shorter, longer in (("(" + "1" * 1998 + ")", "(" + "1" * 1999 + ")"),
                                ("(a " + "1" * 1996 + ")", "(a " + "1" * 1997 + ")"),
                                ("(a . " + "1" * 1994 + ")", "(a . " + "1" * 1995 + ")"),
                                ("(" + "1" * 1994 + " . a)", "(" + "1" * 1995 + " . a)"),
                                ("(" + "1" * 1995 + " ())", "(" + "1" * 1996 + " ())")):
            self.check(shorter)
            self.assertEqual(printed(longer), "#long")

    def test_a_quote_counts_as_the_list_that_it_is(self):
        self.assertEqual(printed("'" + "1" * 1992), "(quote " + "1" * 1992 + ")")
        self.assertEqual(printed("'" + "1" * 1993), "#long")

    def test_a_tail_that_is_a_list_counts_as_one_list(self):
        self.assertEqual(printed("(" + "1" * 1996 + " . (a))"), "(" + "1" * 1996 + " a)")
        self.assertEqual(printed("(" + "1" * 1997 + " . (a))"), "#long")

    def test_blanks_and_notes_of_the_text_do_not_count(self):
        self.assertEqual(read("(a " + " " * 3000 + "; note\n" * 500 + "b)"), ("(a b)",))

    def test_it_is_the_whole_datum_that_is_long(self):
        self.assertEqual(read("a (b (c " + "1" * 2001 + ") d) (e)"), ("a", "#long", "(e)"))
        self.assertEqual(printed("(" + "(a b c)" * 1000 + ")"), "#long")
        self.assertEqual(printed("(" + "'()" * 300000 + ")"), "#long")

    def test_each_datum_is_counted_by_itself(self):
        self.assertEqual(read(("9" * 2000 + " ") * 5), ("9" * 2000,) * 5)


class Data(unittest.TestCase):
    """Data that no text tells, but runs and macros can make."""

    def test_single_data(self):
        self.assertEqual([datum_text(datum) for datum in (0, -12, "a", "yes", "no", "none", EMPTY)],
                         ["0", "-12", "a", "yes", "no", "none", "()"])

    def test_lists(self):
        self.assertEqual(datum_text(list_of([1, list_of(["a"], "b"), EMPTY], EMPTY)), "(1 (a . b) ())")

    def test_heads_nested_without_end(self):
        datum = EMPTY
        for lap in range(999):
            datum = Pair(datum, EMPTY)
        self.assertEqual(datum_text(datum), "(" * 1000 + ")" * 1000)
        for lap in range(200000):
            datum = Pair(datum, EMPTY)
        self.assertEqual(datum_text(datum), "#long")

    def test_tails_without_end(self):
        self.assertEqual(datum_text(list_of([1] * 1000000, EMPTY)), "#long")

    def test_a_datum_that_holds_itself_very_often_by_its_parts(self):
        datum = "a"
        for lap in range(500):
            datum = Pair(datum, datum)
        self.assertEqual(datum_text(datum), "#long")

    def test_integers_far_too_great(self):
        for number in (10 ** 2000, -10 ** 1999, 10 ** 5000, -10 ** 5000):
            self.assertEqual(datum_text(number), "#long")
            self.assertEqual(datum_text(Pair("a", number)), "#long")
        self.assertEqual(datum_text(10 ** 2000 - 1), "9" * 2000)
        self.assertEqual(datum_text(1 - 10 ** 1999), "-" + "9" * 1999)


class Words(unittest.TestCase):
    """What a single word is, whatever stands round about it."""

    def test_names(self):
        for word in ("a", "...", "..", "1+", "a.b", "yes", "none", "a" * 16):
            self.assertEqual((is_name(word), is_integer(word)), (True, False), word)

    def test_integers(self):
        for word in ("0", "5", "-5", "10", "9" * 5000):
            self.assertEqual((is_name(word), is_integer(word)), (False, True), word)

    def test_neither(self):
        for word in ("", ".", "-", "--", "01", "-0", "5-", "(", "B", "aB", "a b", "a\n", "5 ", "a" * 17):
            self.assertEqual((is_name(word), is_integer(word)), (False, False), word)


class Numbers(unittest.TestCase):
    """Integers are read as they are, also those that are too long to print."""

    def test_long_ones(self):
        for many in (1, 63, 64, 65, 128, 4299, 4300, 4301, 9999):
            self.assertEqual(number_of("1" + "0" * many), 10 ** many)
            self.assertEqual(number_of("-" + "9" * many), 1 - 10 ** many)
            self.assertEqual(number_of("5" + "0" * many + "7"), 5 * 10 ** (many + 1) + 7)


if __name__ == "__main__":
    unittest.main()
