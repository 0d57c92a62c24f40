"""What core forms are printed with: data in full, however long; and what only runs make."""

import sys
import unittest

from keptagain.data import EMPTY, Cell, Function, Pair, kind_of, list_of
from keptagain.frames import Part, Whole
from keptagain.primitives import Primitive
from keptagain.printing import datum_text, full_text, number_text
from keptagain.reading import data_in


class FullText(unittest.TestCase):

    def test_of_what_is_short_it_is_what_is_printed(self):
        for text in ("5", "a", "yes", "()", "(a . b)", "(a (b . c) () d)", "((()) . 5)", "((a . b) . (c . d))", "'(a 'b)"):
            for datum in data_in(text):
                self.assertEqual(full_text(datum), datum_text(datum))

    def test_of_what_is_long(self):
        text = "(" + "(a . b) () " * 5000 + "5 . c)"
        self.assertEqual(datum_text(data_in(text)[0]), "#long")
        self.assertEqual(full_text(data_in(text)[0]), text)

    def test_deep_and_long_without_end(self):
        datum = EMPTY
        for lap in range(100000):
            datum = Pair(datum, EMPTY)
        self.assertEqual(full_text(datum), "(" * 100001 + ")" * 100001)
        self.assertEqual(full_text(list_of(["a"] * 100000, EMPTY)), "(" + " ".join(["a"] * 100000) + ")")

    def test_numbers_of_any_size(self):
        for many in (1, 63, 64, 65, 600, 601, 602, 603, 604, 640, 641, 1000, 2000, 4299, 4300, 4301, 9999):
            for text in ("1" + "0" * many, "9" * many, "7" + "0" * many + "3", ("1234567890" * many)[:many]):
                number = data_in(text)[0]
                self.assertEqual(number_text(number), text)
                self.assertEqual(number_text(-number), "-" + text)
        self.assertEqual(number_text(0), "0")

    def test_numbers_where_python_itself_would_refuse(self):
        ahead = sys.get_int_max_str_digits()
        try:
            sys.set_int_max_str_digits(640)
            for many in (639, 640, 641, 2000):
                self.assertEqual(datum_text(data_in("7" * many)[0]), "7" * many)
        finally:
            sys.set_int_max_str_digits(ahead)


class WhatRunsMake(unittest.TestCase):

    def test_what_they_are_printed_as(self):
        for thing, kind in ((Cell(), "cell"), (Function(), "fn"), (Primitive("add"), "fn"), (Whole(None), "rest"),
                            (Part(None, None), "rest")):
            self.assertEqual((kind_of(thing), datum_text(thing)), (kind, "#" + kind))
            self.assertEqual(datum_text(list_of([1, thing], thing)), "(1 #%s . #%s)" % (kind, kind))

    def test_their_signs_count(self):
        self.assertEqual(len(datum_text(list_of(["a" * 16] * 117 + [Cell()], EMPTY))), 1996)
        self.assertEqual(datum_text(list_of(["a" * 16] * 117 + ["a" * 5, "a"], Cell())), "#long")


if __name__ == "__main__":
    unittest.main()
