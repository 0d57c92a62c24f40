"""The prelude of section 6."""

import unittest

from keptagain.prelude import PRELUDE
from keptagain.reading import read

LINES = (
    "(macro let () ((let ((x e) ...) b ...) ((fn (x ...) b ...) e ...)))",
    "(macro letrec () ((letrec ((x e) ...) b ...) ((fn (x ...) (set x e) ... b ...) (quote x) ...)))",
    "(macro loop () ((loop f ((x e) ...) b ...) (((fn (f) (set f (fn (x ...) b ...)) f) none) e ...)))",
    "(macro and () ((and) yes) ((and e) e) ((and e f ...) (if e (and f ...) no)))",
    "(macro or () ((or) no) ((or e) e) ((or e f ...) ((fn (t) (if t t (or f ...))) e)))",
    "(macro when () ((when e b ...) (if e (do b ...) none)))",
    "(macro cond (else) ((cond) none) ((cond (else b ...)) (do b ...)) ((cond (e b ...) c ...)"
    " (if e (do b ...) (cond c ...))))",
    "(macro while () ((while e b ...) ((fn (go) (set go (fn () (if e (do b ... (go)) none))) (go)) none)))",
)


class Prelude(unittest.TestCase):

    def test_it_is_a_string_of_these_lines_joined_by_line_feeds(self):
        self.assertIsInstance(PRELUDE, str)
        self.assertEqual(tuple(PRELUDE.split("\n")), LINES)

    def test_each_line_is_read_to_itself(self):
        self.assertEqual(read(PRELUDE), LINES)


if __name__ == "__main__":
    unittest.main()
