"""Sections 3 to 8, as far as they bear on machines: macros that keep what is left to do, and bound names called otherwise, tell the same."""

import random
import re
import unittest

from keptagain.collecting import held
from keptagain.compiling import bodies, coded, heights
from keptagain.core import Program
from keptagain.images import image
from keptagain.machine import Machine
from keptagain.reading import printed

from makers import Keeper, Maker
from runs import run, tells


class Macros(unittest.TestCase):

    KEEPING = ("(macro here () ((here k e ...) (keep (fn (k) (do e ...)))))\n"
               "(macro cut () ((cut k e ...) (part (fn (k) (do e ...)))))\n"
               "(macro mark () ((mark e ...) (prompt (fn () (do e ...)))))\n"
               "(macro around (in out) ((around (in a ...) (out b ...) e ...) (wind (fn () (do a ...)) (fn () (do e ...)) (fn () (do b ...)))))\n"
               "(macro lest () ((lest e d h) (try (fn () e) (fn (d) h))))\n"
               "(macro gen () ((gen y e ...) (let ((left none)) (set left (fn () (mark (let ((y (fn (x) (cut k (set left (fn () (k none))) x)))) e ... none))))"
               " (fn () (left)))))\n")

    def check(self, text, worth, *told):
        self.assertEqual(run(self.KEEPING + text), ("ended", worth, told))

    def test_they_keep_whole_and_in_part(self):
        self.check("(add 1 (here k (add 10 (k 5))))", "6")
        self.check("(def again none) (def n 0) (tell (list (here k (set again k) 'first))) (set n (add n 1)) (if (less n 3) (again n) 'end)", "end",
                   "(first)", "(1)", "(2)")
        self.check("(mark (add 100 (cut k (add (k 1) (k 2)))))", "203")
        self.check("(def g (gen yield (yield 1) (yield 2))) (list (g) (g) (g))", "(1 2 none)")

    def test_they_wind_and_catch(self):
        self.check("(here home (around (in (tell 'in)) (out (tell 'out)) (home 5)))", "5", "in", "out")
        self.check("(lest (around (in (tell 'in)) (out (tell 'out)) (head 5)) d (list d 'caught))", "(kind caught)", "in", "out")

    def test_the_names_that_they_bring_in_meet_none(self):
        self.check("(def k 'mine) (list (here x (list k (here k (k 1)))) (let ((left 5)) (let ((g (gen y (y left) (y k)))) (list (g) (g)))))",
                   "((mine 1) (5 mine))")
        self.check("(let ((list add) (t 3)) (or no (list t (here t (t 4)))))", "7")

    def test_loops_of_the_prelude_kept_amid(self):
        self.check("(def again none) (def n 0) (let ((i 0)) (while (less i 3) (tell (list i (here k (when (same i 1) (set again k)) 'at))) (set i (add i 1)))) "
                   "(set n (add n 1)) (if (less n 2) (again 'back) 'end)", "end", "(0 at)", "(1 at)", "(2 at)", "(1 back)")
        self.check("(def again none) (def n 0) (tell (loop f ((i 0) (l '())) (if (less 2 i) l (f (add i 1) (pair (here k (when (same i 1) (set again k)) i) l))))) "
                   "(set n (add n 1)) (if (less n 3) (again (list n)) 'end)", "end", "(2 1 0)", "(2 (1) 0)", "(2 (2) 0)")
        self.check("(def again none) (def n 0) (tell (letrec ((x (here k (set again k) 0)) (f (fn () x))) (list (f) (same f (f))))) "
                   "(set n (add n 1)) (if (less n 2) (again 'back) 'end)", "end", "(0 no)", "(back no)")


class CalledOtherwise(unittest.TestCase):
    """Programs whose bound names are called otherwise have the same rows, and stand alike behind each row."""

    def renamed(self, text, chance):
        """Text with v0, v1, .., and w, which only fn and let bind, called otherwise."""
        names = sorted(set(re.findall(r"\bv[0-9]+\b|\bw\b", text)))
        others = chance.sample(["a", "b", "go", "t", "fst", "z9", "x.y", "q?", "left!", "u*", "-a", "r>", "=1", "v<", "o/o", "h1", "i1", "j1"], len(names))
        new = dict(zip(names, others))
        return re.sub(r"\bv[0-9]+\b|\bw\b", lambda found: new[found.group()], text)

    def test_the_very_same_comes_of_them(self):
        for seed in range(80):
            maker = (Maker, Keeper)[seed % 2](seed)
            text = maker.text()
            other = self.renamed(text, random.Random(seed))
            one, two = Program(text), Program(other)
            self.assertEqual((one.forms, bodies(one), coded(one), heights(one)), (two.forms, bodies(two), coded(two), heights(two)))
            self.assertEqual(run(text, (), 60), run(other, (), 60))
            left, right = Machine(one, ()), Machine(two, ())
            while left.ending is None and left.turns < 40:
                self.assertEqual((left.step(), tells(left)), (right.step(), tells(right)))
                if left.rows % 10 == 0:
                    self.assertEqual(held(left), held(right))
                    self.assertEqual(image(left).replace(text, ""), image(right).replace(other, ""))

    def test_what_is_told_is_read_to_the_same_again(self):
        for seed in range(200):
            told = run((Maker, Keeper)[seed % 2](seed).text(), (), 80)[-1]
            for text in told:
                if "#" not in text:
                    self.assertEqual(printed(text), text)


if __name__ == "__main__":
    unittest.main()
